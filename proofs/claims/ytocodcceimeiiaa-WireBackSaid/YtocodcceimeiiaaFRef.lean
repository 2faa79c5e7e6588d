
/- The contracts of layer 19's reference: Put. -/

import Derived.Test.YtocodcceimeiiaaFPlain

import Derived.Test.YtocodcceimeiiaaWRow

import Derived.Test.YtocodcceimeiiaaRPut

import Derived.Test.YtocodcceimeiiaaWide

namespace Go.Proofs.Ytocodcceimeiiaa

open Go.RowKit Go.ChangeShapes Go.WideShapes Go.ChangeAt

/-- A field, as it lies: with the value of its bytes. -/
structure FN where
  tag : Int
  bytes : Bool
  n : Nat
  b : List UInt8
  lv : Value
def FN.wf (f : FN) : WF := ⟨f.tag, f.bytes, f.n, f.b⟩
def fcells (f : FN) : List Value := [.int .i64 f.tag, .bool f.bytes, .int .u64 (f.n : Int), f.lv]
structure FAt (f : FN) (w : World) : Prop where
  byt : IsB f.b f.lv w
  tag : inInt f.tag
  n : f.n < 18446744073709551616
  len : f.b.length ≤ 4000
theorem FAt.below {f : FN} {w w' : World} (h : FAt f w) (hb : Below w.heap.size w w') : FAt f w' := ⟨h.byt.below hb, h.tag, h.n, h.len⟩
def IsFields (l : List FN) (v : Value) (w : World) : Prop := IsR fcells l v w ∧ ∀ f ∈ l, FAt f w
theorem IsFields.below {l : List FN} {v : Value} {w w' : World} (h : IsFields l v w) (hb : Below w.heap.size w w') : IsFields l v w' := ⟨h.1.below hb, fun f hf => (h.2 f hf).below hb⟩
theorem cells4 {w : World} {ad : Addr} {k : Nat} {x : FN} (h : ∀ i, i < 4 → w.cell? (ad.add (k * 4 + i)) = (fcells x)[i]?) :
    w.cell? (ad.add (k * 4)) = some (.int .i64 x.tag) ∧ w.cell? ⟨(ad.add (k * 4)).block, (ad.add (k * 4)).off + 1, none⟩ = some (.bool x.bytes) ∧ w.cell? ⟨(ad.add (k * 4)).block, (ad.add (k * 4)).off + 2, none⟩ = some (.int .u64 (x.n : Int)) ∧ w.cell? ⟨(ad.add (k * 4)).block, (ad.add (k * 4)).off + 3, none⟩ = some x.lv := by
  refine ⟨h 0 (by omega), ?_, ?_, ?_⟩
  · have h1 := h 1 (by omega); rw [← add_add] at h1; exact h1
  · have h1 := h 2 (by omega); rw [← add_add] at h1; exact h1
  · have h1 := h 3 (by omega); rw [← add_add] at h1; exact h1
def fbs (l : List FN) : List UInt8 := l.flatMap fun f => fput1 f.wf
theorem fbs_snoc {l : List FN} {k : Nat} (h : k < l.length) : fbs (l.take (k + 1)) = fbs (l.take k) ++ fput1 l[k].wf := by
  unfold fbs
  rw [List.take_succ_eq_append_getElem h, List.flatMap_append]
  simp
theorem fput1_len4 {f : FN} {w : World} (h : FAt f w) (ht : ftag f.wf) : (fput1 f.wf).length ≤ 4020 := by
  have h1 := h.len
  have h2 := h.n
  obtain ⟨t1, t2⟩ := ht
  unfold fput1
  split
  · rw [List.length_append, List.length_append]
    have a1 := vput_len_10 (x := (8 * f.wf.tag + 2).toNat) (by omega)
    have a2 := vput_len_10 (x := f.wf.b.length) (by show f.b.length < _; omega)
    show _ + (_ + f.b.length) ≤ _
    omega
  · rw [List.length_append]
    have a1 := vput_len_10 (x := (8 * f.wf.tag).toNat) (by omega)
    have a2 := vput_len_10 (x := f.wf.n) h2
    omega
theorem fbs_len {w : World} : ∀ {l : List FN}, (∀ f ∈ l, FAt f w ∧ ftag f.wf) → (fbs l).length ≤ l.length * 4020
  | [], _ => by simp [fbs]
  | f :: l, h => by
    have h1 := fbs_len (l := l) fun g hg => h g (List.mem_cons_of_mem _ hg)
    have h2 := fput1_len4 (h f List.mem_cons_self).1 (h f List.mem_cons_self).2
    have h3 : fbs (f :: l) = fput1 f.wf ++ fbs l := by unfold fbs; rw [List.flatMap_cons]
    rw [h3, List.length_append, List.length_cons, Nat.add_mul]
    omega
theorem rput_isO {l : List UInt8} {v : Value} {w : World} (x : Int) (h : IsB l v w) (hl : l.length ≤ 1000000) (h0 : 0 ≤ x) (h1 : x < 18446744073709551616) :
    Calls Try.prog 15 #[v, .int .u64 x] w (RetOwn w (l ++ vput x.toNat)) := by
  obtain ⟨A, c, rfl, h2, h3, h4, h5⟩ := h
  exact rput_own A _ c x l w h2 rfl hl h5 h0 h1
/-- What Put answers, and whether it is refused. -/
def fputP (l : List FN) : List UInt8 × Int := match fputE (l.map FN.wf) with
  | some b => (b, 0)
  | none => ([], 1)
theorem fputP_ok {l : List FN} (h : ∀ f ∈ l, ftag f.wf) : fputP l = (fbs l, 0) := by
  unfold fputP fputE
  rw [if_pos (by intro g hg; obtain ⟨f, hf, rfl⟩ := List.mem_map.1 hg; exact h f hf)]
  dsimp only
  unfold fbs
  rw [List.flatMap_map]
theorem fputP_no {l : List FN} {k : Nat} (hk : k < l.length) (h : ¬ ftag l[k].wf) : fputP l = ([], 1) := by
  unfold fputP fputE
  rw [if_neg fun h2 => h (h2 _ (List.mem_map.2 ⟨_, List.getElem_mem hk, rfl⟩))]
def FPutRel (l : List FN) (w : World) (out i : Value) (wr : World) : Prop := ∃ k : Nat, k ≤ l.length ∧ i = .int .i64 (k : Int) ∧ (∀ f ∈ l.take k, ftag f.wf) ∧ wr.ownsRow w.heap.size 5 1 out (fbs (l.take k)).length ((fbs (l.take k)).map bv) ∧ Below w.heap.size w wr
set_option maxHeartbeats 4000000 in
set_option maxRecDepth 100000 in
theorem rfput_any (l : List FN) (v : Value) (w : World) (h : IsFields l v w) (hl : l.length ≤ 200) :
    Calls Try.prog 10 #[v] w (RetE w (fputP l)) := by
  obtain ⟨A, n, c, rfl⟩ := h.1.shape
  have HF := Lib.hid h
  have HN := Lib.hid h.1.parts.1
  have hn2 : (n : Int) ≤ 200 := by have := HN.out; omega
  have HST : Hid (FPutRel l w (.slice (some ⟨w.heap.size, 0, none⟩) 0 0) (.int .i64 0) (w.alloc (.cells #[] 5))) := Lib.hid ⟨0, Nat.zero_le _, rfl, by simp, World.ownsRow_made w #[] 0 (Nat.le_refl _) (by unfold maxLen; omega) (by simp), (Below.refl _ _).alloc (Nat.le_refl _) _⟩
  clear h
  go_enter Try.func10, Try.ntmps10
  go_wp2
  go_loopw [4, 5] (FPutRel l w) (fun _ i _ => n - (intOf i).toNat)
  case atStart => exact HST.out
  case round =>
    obtain ⟨k, hk, rfl, htk, how, hbw⟩ := hrel
    clear HST
    by_cases hlt : k < n
    · have hlti : (k : Int) < (n : Int) := by omega
      have hkl : k < l.length := by have := HN.out; omega
      obtain ⟨ad, rfl, had, hcell⟩ := ((HF.out.below hbw).1).at (m := 4) (fun _ => rfl) (by omega) hkl
      have hat := (HF.out.below hbw).2 _ (List.getElem_mem hkl)
      have hsn := fbs_snoc hkl
      have hbl : (fbs (l.take k)).length ≤ 804000 := by
        have h1 := fbs_len (w := wr) (l := l.take k) fun f hf => ⟨(HF.out.below hbw).2 f (List.mem_of_mem_take hf), htk f hf⟩
        rw [List.length_take] at h1
        have h2 : min k l.length * 4020 ≤ 200 * 4020 := Nat.mul_le_mul_right _ (by omega)
        omega
      have hno : ¬ ftag l[k].wf → fputP l = ([], 1) := fputP_no hkl
      have hta : ftag l[k].wf → ∀ f ∈ l.take (k + 1), ftag f.wf := fun ht f hf => by
        rw [List.take_succ_eq_append_getElem hkl] at hf
        rcases List.mem_append.1 hf with hf | hf
        · exact htk f hf
        · rw [List.mem_singleton.1 hf]; exact ht
      obtain ⟨x, hx⟩ : ∃ x, x = l[k] := ⟨_, rfl⟩
      rw [← hx] at hcell hat hsn hno hta
      obtain ⟨c0, c1, c2, c3⟩ := cells4 hcell
      obtain ⟨tag, bytes, nn, bs, lv⟩ := x
      obtain ⟨bA, bc, e, h5A, _, _, h5L⟩ := hat.byt
      dsimp only at c0 c1 c2 c3 e h5A h5L
      subst e
      have HBA := Lib.hid h5A
      have HBS := Lib.hid h5L
      have hbs := hat.len
      have hbn := hat.n
      dsimp only at hbs hbn
      have HAT := Lib.hid hat
      have HSN := Lib.hid hsn
      have HNO := Lib.hid hno
      have HTA := Lib.hid hta
      have HOW := Lib.hid how
      have HBW := Lib.hid hbw
      have HKL := Lib.hid hkl
      have HBL := Lib.hid hbl
      have htg := hat.tag
      clear hcell hat hsn hno hta how hbw hkl hbl hx had htk h5A h5L
      dsimp only at htg
      by_cases h1 : tag < 1
      · skip
        go_wp2
        go_ret2
        rw [HNO.out (fun ⟨a, b⟩ => by dsimp only [FN.wf] at a b; omega)]
        exact ⟨_, rfl, isB_nil _, below_then HBW.out ((Below.refl _ _).alloc (Nat.le_refl _) _)⟩
      · by_cases h2 : 100 < tag
        · skip
          go_wp2
          go_ret2
          rw [HNO.out (fun ⟨a, b⟩ => by dsimp only [FN.wf] at a b; omega)]
          exact ⟨_, rfl, isB_nil _, below_then HBW.out ((Below.refl _ _).alloc (Nat.le_refl _) _)⟩
        · cases bytes with
          | true =>
            obtain ⟨W1, hW1⟩ : ∃ x, x = wr.alloc (.cells #[.int .i64 tag, .bool true, .int .u64 (nn : Int), .slice bA bs.length bc] 35) := ⟨_, rfl⟩
            have hb0 : Below wr.heap.size wr W1 := by rw [hW1]; exact (Below.refl _ _).alloc (Nat.le_refl _) _
            have HR1 := Lib.hid (show Row W1 wr.heap.size 35 [.int .i64 tag, .bool true, .int .u64 (nn : Int), .slice bA bs.length bc] by rw [hW1]; exact heap_alloc_new wr _)
            have HO1 := Lib.hid (own_below HOW.out hb0)
            have HB1 := Lib.hid (below_then HBW.out hb0)
            have HBS1 := Lib.hid (HBS.out.below hb0)
            have hz1 : w.heap.size ≤ W1.heap.size := HB1.out.size
            have HFT := Lib.hid (HTA.out ⟨by dsimp only [FN.wf]; omega, by dsimp only [FN.wf]; omega⟩)
            have hbl := HBL.out
            have hkl := HKL.out
            clear hb0
            go_wp2_with fail
            rw [← hW1]
            clear hW1 c0 c1 c2 c3
            refine (rput_isO (8 * tag + 2) (isB_own HO1.out) (by omega) (by omega) (by omega)).mono ?_
            rintro e w1 ⟨v1, rfl, ho1, hb1⟩
            have HR2 := Lib.hid (HR1.out.below hb1 HR1.out.lt)
            have HO2 := Lib.hid ho1
            have HB2 := Lib.hid (below_then HB1.out hb1)
            have HBS2 := Lib.hid (HBS1.out.below hb1)
            have d3 := HR2.out.cell 3
            have hv1 := vput_len_10 (x := (8 * tag + 2).toNat) (by omega)
            have hv2 := vput_len_10 (x := bs.length) (by omega)
            clear ho1 hb1
            go_wp2_with fail
            refine (rput_isO (bs.length : Int) (isB_own HO2.out) (by rw [List.length_append]; omega) (by omega) (by omega)).mono ?_
            rintro e w2 ⟨v2, rfl, ho2, hb2⟩
            have HR3 := Lib.hid (HR2.out.below hb2 HR2.out.lt)
            have HB3 := Lib.hid (below_then HB2.out hb2)
            have hz2 := HB2.out.size
            have hz3 := HB3.out.size
            have hl3 := HBS2.out.below hb2
            have ho3 := ownW_base hz2 ho2
            have e3 := HR3.out.cell 3
            have hb3 := HB3.out
            have hA3 := HBA.out
            have hln : (fbs (l.take k) ++ vput (8 * tag + 2).toNat ++ vput (bs.length : Int).toNat).length + bs.length ≤ 1000000000 := by rw [List.length_append, List.length_append, Int.toNat_natCast]; omega
            clear d3 ho2 hb2
            go_wp2_with (at_builtin; refine wpList_join elemB rfl _ _ rfl w.heap.size _ _ _ bA bs.length bc (bs.map bv) w rfl rfl hA3 (by simp) hl3 (bv_one bs) ho3 hb3 hz3 hln (by omega) ?_)
            intro v4 w4 ho4 hb4 _ _
            have HREL := Lib.hid (show FPutRel l w v4 (.int .i64 ((k + 1 : Nat) : Int)) w4 from ⟨k + 1, hkl, rfl, HFT.out, by
              rw [HSN.out, fput1_byt rfl]
              dsimp only [FN.wf]
              simp only [List.map_append, List.length_append, Nat.add_assoc] at ho4 ⊢
              exact ho4, hb4⟩)
            clear ho4 hb4 hl3 ho3 hb3 hA3 hln e3
            go_wp2
            go_roundw
            case rel => exact HREL.out
            case measure => simp [intOf]; omega
          | false =>
            obtain ⟨W1, hW1⟩ : ∃ x, x = wr.alloc (.cells #[.int .i64 tag, .bool false, .int .u64 (nn : Int), .slice bA bs.length bc] 35) := ⟨_, rfl⟩
            have hb0 : Below wr.heap.size wr W1 := by rw [hW1]; exact (Below.refl _ _).alloc (Nat.le_refl _) _
            have HR1 := Lib.hid (show Row W1 wr.heap.size 35 [.int .i64 tag, .bool false, .int .u64 (nn : Int), .slice bA bs.length bc] by rw [hW1]; exact heap_alloc_new wr _)
            have HO1 := Lib.hid (own_below HOW.out hb0)
            have HB1 := Lib.hid (below_then HBW.out hb0)
            have HBS1 := Lib.hid (HBS.out.below hb0)
            have hz1 : w.heap.size ≤ W1.heap.size := HB1.out.size
            have HFT := Lib.hid (HTA.out ⟨by dsimp only [FN.wf]; omega, by dsimp only [FN.wf]; omega⟩)
            have hbl := HBL.out
            have hkl := HKL.out
            clear hb0
            go_wp2_with fail
            rw [← hW1]
            clear hW1 c0 c1 c2 c3
            refine (rput_isO (8 * tag) (isB_own HO1.out) (by omega) (by omega) (by omega)).mono ?_
            rintro e w1 ⟨v1, rfl, ho1, hb1⟩
            have HR2 := Lib.hid (HR1.out.below hb1 HR1.out.lt)
            have HO2 := Lib.hid ho1
            have HB2 := Lib.hid (below_then HB1.out hb1)
            have d2 := HR2.out.cell 2
            have hv1 := vput_len_10 (x := (8 * tag).toNat) (by omega)
            clear ho1 hb1
            go_wp2_with fail
            refine (rput_isO (nn : Int) (isB_own HO2.out) (by rw [List.length_append]; omega) (by omega) (by omega)).mono ?_
            rintro e w2 ⟨v2, rfl, ho2, hb2⟩
            have hz2 := HB2.out.size
            have HREL := Lib.hid (show FPutRel l w v2 (.int .i64 ((k + 1 : Nat) : Int)) w2 from ⟨k + 1, hkl, rfl, HFT.out, by
              rw [HSN.out, fput1_num rfl]
              dsimp only [FN.wf]
              rw [Int.toNat_natCast] at ho2
              rw [← List.append_assoc]
              exact ownW_base hz2 ho2, below_then HB2.out hb2⟩)
            clear d2 ho2 hb2
            go_wp2
            go_roundw
            case rel => exact HREL.out
            case measure => simp [intOf]; omega
    · have hlti : ¬ (k : Int) < (n : Int) := by omega
      obtain rfl : k = l.length := by have := HN.out; omega
      rw [List.take_length] at htk how
      have HR := Lib.hid (show RetE w (fputP l) (.returned (.tuple #[u4, .int .i64 0])) wr by rw [fputP_ok htk]; exact ⟨_, rfl, isB_own how, hbw⟩)
      clear htk how hbw
      go_wp2
      go_ret2
      exact HR.out
end Go.Proofs.Ytocodcceimeiiaa
