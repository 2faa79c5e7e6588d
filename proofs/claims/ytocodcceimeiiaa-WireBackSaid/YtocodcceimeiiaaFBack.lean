
/- The statement WireBack: for any fields, and wherever what is laid down of them is cut, the law answers true. No condition. Written by gen_wire_laws.py. -/

import Derived.Test.YtocodcceimeiiaaFLaw

namespace Go.Proofs.Ytocodcceimeiiaa

open Go.RowKit Go.ChangeShapes Go.WideShapes Go.ChangeAt

/-- A field as it may be: a number has no bytes, bytes have no number. -/
def fnorm (f : FN) : FN := if f.bytes = true then ⟨f.tag, true, 0, f.b, f.lv⟩ else ⟨f.tag, false, f.n, [], .slice none 0 0⟩
def fin (l : List FN) : List FN := (l.filter fun f => decide (ftag f.wf)).map fnorm
theorem fin_next {l : List FN} {k : Nat} (h : k < l.length) : fin (l.take (k + 1)) = fin (l.take k) ++ (if ftag l[k].wf then [fnorm l[k]] else []) := by
  unfold fin
  rw [List.take_succ_eq_append_getElem h, List.filter_append, List.map_append]
  congr 1
  by_cases ht : ftag l[k].wf <;> simp [ht]
theorem fin_len (l : List FN) : (fin l).length ≤ l.length := by unfold fin; rw [List.length_map]; exact List.length_filter_le _ _
theorem fin_at {l : List FN} {w : World} (h : ∀ f ∈ l, FAt f w) : ∀ f ∈ fin l, FAt f w ∧ FOk f.wf := by
  intro f hf
  obtain ⟨g, hg, rfl⟩ := List.mem_map.1 hf
  obtain ⟨hg, ht⟩ := List.mem_filter.1 hg
  have ht : ftag g.wf := of_decide_eq_true ht
  have ha := h g hg
  obtain ⟨tag, bytes, n, b, lv⟩ := g
  obtain ⟨a1, a2, a3, a4⟩ := ha
  dsimp only at a1 a2 a3 a4
  unfold fnorm
  cases bytes with
  | true => exact ⟨⟨a1, a2, by dsimp only [if_pos]; simp, a4⟩, ⟨ht, by simp [FN.wf], by simp only [FN.wf]; simp; omega, fun h => by simp [FN.wf] at h, fun _ => rfl⟩⟩
  | false => exact ⟨⟨isB_nil w, a2, a3, by simp⟩, ⟨ht, by simp [FN.wf]; exact a3, by simp [FN.wf], fun _ => rfl, fun h => by simp [FN.wf] at h⟩⟩
theorem fin_ok {l : List FN} {w : World} (h : ∀ f ∈ l, FAt f w) : fputP (fin l) = (fbs (fin l), 0) := fputP_ok fun f hf => (fin_at h f hf).2.tag
theorem fin_take {l : List FN} {w : World} (h : ∀ f ∈ l, FAt f w) : ftakeE (fbs (fin l)) = some ((fin l).map FN.wf) := by
  have h1 := ftakeE_put (l := (fin l).map FN.wf) fun f hf => by
    obtain ⟨g, hg, rfl⟩ := List.mem_map.1 hf
    exact (fin_at h g hg).2
  rw [List.flatMap_map] at h1
  exact h1
theorem fin_cut {l : List FN} {w : World} (h : ∀ f ∈ l, FAt f w) {k : Nat} (hk : k < (fbs (fin l)).length) : ftakeE ((fbs (fin l)).take k) = none ∨ ∃ m, ftakeE ((fbs (fin l)).take k) = some m ∧ m.length < (fin l).length := by
  have e : fbs (fin l) = ((fin l).map FN.wf).flatMap fput1 := by rw [List.flatMap_map]; rfl
  have h1 := ftakeE_cut (l := (fin l).map FN.wf) (fun f hf => by
    obtain ⟨g, hg, rfl⟩ := List.mem_map.1 hf
    exact (fin_at h g hg).2) (k := k) (by rw [← e]; exact hk)
  rw [← e, List.length_map] at h1
  exact h1
def FInRel (l : List FN) (w : World) (out i : Value) (wr : World) : Prop := ∃ k : Nat, k ≤ l.length ∧ i = .int .i64 (k : Int) ∧ wr.ownsRow w.heap.size 35 4 out (fin (l.take k)).length ((fin (l.take k)).flatMap fcells) ∧ Below w.heap.size w wr
set_option maxHeartbeats 8000000 in
set_option maxRecDepth 100000 in
theorem WireBack_walk (w : World) (v0 : Value) (l0 : List FN) (h0 : IsFieldsIn l0 v0 w) (at_ : Int) (hat0 : -9223372036854775808 ≤ at_) (hat1 : at_ ≤ 9223372036854775807) :
    Calls Try.prog 4 #[v0, .int .i64 at_] w fun e w' => e = .returned (.bool true) ∧ Below w.heap.size w w' := by
  have H0 := Lib.hid h0
  obtain ⟨eb, heb, hE⟩ := elemFN
  have HEB := Lib.hid hE
  clear h0 hE
  go_enter Try.func4, Try.ntmps4
  go_wp2_with fail
  refine (shown19_any w).mono ?_
  rintro e w1 ⟨rfl, hb1⟩
  have HB1 := Lib.hid hb1
  clear hb1
  go_wp2_with fail
  refine (ffewK_any l0 v0 w1 (H0.out.below HB1.out)).mono ?_
  rintro e w2 ⟨vl, rfl, ho1, hb2⟩
  have HB2 := Lib.hid (below_then HB1.out hb2)
  have HL := Lib.hid (ffew_fields H0.out HB2.out ho1)
  have HLN := Lib.hid (ffewL_len l0)
  have HL0 := Lib.hid (fun f hf => (ffewL_at H0.out.2 f hf).1)
  obtain ⟨l, hl⟩ : ∃ l, l = ffewL l0 := ⟨_, rfl⟩
  rw [← hl] at HL HLN HL0
  obtain ⟨lA, n, lc, rfl⟩ := HL.out.1.shape
  have HN := Lib.hid HL.out.1.parts.1
  have hn6 : (n : Int) ≤ 60 := by have := HLN.out; have := HN.out; omega
  have HST := Lib.hid (show FInRel l w2 (.slice (some ⟨w2.heap.size, 0, none⟩) 0 0) (.int .i64 0) (w2.alloc (.cells #[] 35)) from ⟨0, Nat.zero_le _, rfl, by simpa [fin] using ownW_made w2 35 4, (Below.refl _ _).alloc (Nat.le_refl _) _⟩)
  clear hb2 ho1 hl HB1
  go_wp2
  go_loopw [6, 7] (FInRel l w2) (fun _ i _ => n - (intOf i).toNat)
  case atStart => exact HST.out
  case round =>
    obtain ⟨k, hk, rfl, how, hbw⟩ := hrel
    clear HST
    by_cases hlt : k < n
    case neg =>
      have hlti : ¬ (k : Int) < (n : Int) := by omega
      obtain rfl : k = l.length := by have := HN.out; omega
      rw [List.take_length] at how
      have HIN := Lib.hid (show IsFields (fin l) u6 wr from isFields_own how fun f hf => (fin_at HL0.out f hf).1.below (below_then HB2.out hbw))
      have HB := Lib.hid (below_then HB2.out hbw)
      have HIN6 := Lib.hid (show (fin l).length ≤ 60 by have := fin_len l; have := HLN.out; omega)
      have HIN4 := Lib.hid (show (fin l).length ≤ 1000 by have := HIN6.out; omega)
      have HPOK := Lib.hid (fin_ok HL0.out)
      have HTK := Lib.hid (fin_take HL0.out)
      obtain ⟨iA, im, ic, rfl⟩ := HIN.out.1.shape
      have HIM := Lib.hid HIN.out.1.parts.1
      have HBLN := Lib.hid (show (fbs (fin l)).length ≤ 1000000000 by
        have h1 := fputP_len (fun f hf => (fin_at HL0.out f hf).1) (by have := HIN6.out; omega)
        rw [HPOK.out] at h1
        dsimp only at h1
        omega)
      clear how hbw hk
      go_wp2_with fail
      refine (fownK_any (fin l) (.slice iA im ic) wr HIN.out HIN4.out).mono ?_
      rintro e w3 ⟨fs, fu, rfl, he3, ho3, hf3, hb⟩
      have HIN := Lib.hid (IsFields.below HIN.out hb)
      have HBP := HB
      have HB := Lib.hid (below_then HB.out hb)
      have HFF := Lib.hid (ffields_like he3 HIN.out.2 hf3 ho3)
      have HFE := Lib.hid (he3)
      have HFN := Lib.hid (flen_like he3)
      clear he3 ho3 hf3 hb
      go_wp2_with fail
      refine (fput_own fs fu w3 HFF.out (by have := HIN6.out; have := HFN.out; omega)).mono ?_
      rw [fputP_like HFE.out, HPOK.out]
      rintro e w4 ⟨bw, rfl, ho4, hb⟩
      have HIN := Lib.hid (IsFields.below HIN.out hb)
      have HFF := Lib.hid (IsFields.below HFF.out hb)
      have HBP := HB
      have HB := Lib.hid (below_then HB.out hb)
      have HBI := Lib.hid (isB_own ho4)
      dsimp only at HBI ⊢
      clear ho4 hb
      go_wp2_with fail
      refine (ftake_own (fbs (fin l)) bw w4 HBI.out HBLN.out).mono ?_
      rw [HTK.out]
      rintro e w5 ⟨ts, tv, rfl, hte, hto, htf, hb⟩
      have HIN := Lib.hid (IsFields.below HIN.out hb)
      have HBI := Lib.hid (IsB.below HBI.out hb)
      have HBP := HB
      have HB := Lib.hid (below_then HB.out hb)
      have HTF := Lib.hid (ffields_like hte HIN.out.2 htf hto)
      have HTE := Lib.hid (hte)
      clear hte hto htf hb
      go_wp2_with fail
      refine (fsameK_any ts (fin l) tv (.slice iA im ic) w5 HTF.out HIN.out (by have := flen_like HTE.out; have := HIN6.out; omega) (fun k W h1 h2 => rfsame_any ts (fin l) k _ W h1 h2 HTE.out (by have := flen_like HTE.out; have := HIN6.out; omega))).mono ?_
      rintro e w6 ⟨rfl, hb⟩
      have HIN := Lib.hid (IsFields.below HIN.out hb)
      have HBI := Lib.hid (IsB.below HBI.out hb)
      have HTF := Lib.hid (IsFields.below HTF.out hb)
      have HBP := HB
      have HB := Lib.hid (below_then HB.out hb)
      clear hb
      obtain ⟨bA, bn, bc, rfl⟩ := IsV.shape (f := bv) HBI.out
      have HBN := Lib.hid (IsV.parts (f := bv) HBI.out).1
      have hbnc := (IsV.parts (f := bv) HBI.out).2.2.1
      have hbcm := (IsV.parts (f := bv) HBI.out).2.2.2.1
      have hbci : (bc : Int) ≤ 9223372036854775807 := by unfold maxLen at hbcm; omega
      have HZC := Lib.hid hbnc
      clear hbcm hbnc
      by_cases a1 : at_ < 0
      · go_wp2
        go_ret
        exact ⟨rfl, HB.out⟩
      obtain ⟨K, rfl⟩ := Int.eq_ofNat_of_zero_le (show 0 ≤ at_ by omega)
      by_cases a2 : bn ≤ K
      · have a2i : (bn : Int) ≤ (K : Int) := by omega
        have a1i : ¬ (K : Int) < 0 := by omega
        go_wp2
        go_ret
        exact ⟨rfl, HB.out⟩
      have a2i : ¬ (bn : Int) ≤ (K : Int) := by omega
      have a2n : ¬ bn ≤ K := a2
      have a1i : ¬ (K : Int) < 0 := by omega
      have hKc : (K : Int) ≤ (bc : Int) := by have := HZC.out; omega
      have hKn : K ≤ bc := by have := HZC.out; omega
      have HCU := Lib.hid (fin_cut HL0.out (k := K) (by have := HBN.out; omega))
      have HBK := Lib.hid (IsV.take (f := bv) HBI.out (show K ≤ bn by omega))
      have HBKL := Lib.hid (show ((fbs (fin l)).take K).length ≤ 1000000000 by rw [List.length_take]; have := HBLN.out; omega)
      go_wp2_with fail
      have htk := ftake_own ((fbs (fin l)).take K) (.slice bA K bc) _ HBK.out HBKL.out
      rcases HCU.out with hc | ⟨m, hc, hm⟩
      · rw [hc] at htk
        refine htk.mono ?_
        rintro e wz ⟨rfl, hb⟩
        have HB := Lib.hid (below_then HB.out hb)
        clear hb htk hc
        go_wp2
        go_ret
        exact ⟨rfl, HB.out⟩
      · rw [hc] at htk
        refine htk.mono ?_
        rintro e wz ⟨ns, nv, rfl, hne, hno, hnf, hb⟩
        have HB := Lib.hid (below_then HB.out hb)
        obtain ⟨nA, nn, nc, rfl⟩ := own_slice hno
        have hnl : nn = m.length := by
          have h1 := (IsR.parts (isR_own (f := fcells) (m := 4) (fun _ => rfl) (by omega) hno)).1
          have h2 := congrArg List.length hne
          rw [List.length_map] at h2
          omega
        have hlt2 : decide (nn < im) = true := decide_eq_true (by have := HIM.out; omega)
        have hlt3 : (nn : Int) < (im : Int) := by have := HIM.out; omega
        clear hb htk hc hm hne hno hnf hnl
        go_wp2
        go_ret
        exact ⟨rfl, HB.out⟩
    have hlti : (k : Int) < (n : Int) := by omega
    have hkl : k < l.length := by have := HN.out; omega
    obtain ⟨ad, rfl, had, hcell⟩ := ((HL.out.1.below hbw)).at (m := 4) (fun _ => rfl) (by omega) hkl
    have hsn := fin_next hkl
    have hlk := List.length_take_le k l
    have hk1 : (fin (l.take k)).length ≤ 1000000000 := by have := fin_len (l.take k); have := HLN.out; omega
    have hbt := (HL0.out _ (List.getElem_mem hkl)).byt
    obtain ⟨x, hx⟩ : ∃ x, x = l[k] := ⟨_, rfl⟩
    rw [← hx] at hcell hsn hbt
    obtain ⟨c0, c1, c2, c3⟩ := cells4 hcell
    obtain ⟨tag, bytes, nn, bs, lv⟩ := x
    dsimp only at c0 c1 c2 c3 hbt
    obtain ⟨bA, bn, bc, rfl⟩ := IsV.shape (f := bv) hbt
    have HSN := Lib.hid hsn
    have HO := Lib.hid how
    have HBR := Lib.hid hbw
    have HKL := Lib.hid hkl
    have HZ := Lib.hid hbw.size
    clear hcell hsn how hbw hx had hkl hbt hk hlk
    cases bytes with
    | true =>
      by_cases t1 : 1 ≤ tag
      · by_cases t2 : tag ≤ 100
        · have HSN := Lib.hid (show fin (l.take (k + 1)) = fin (l.take k) ++ [⟨tag, true, 0, bs, .slice bA bn bc⟩] by rw [HSN.out, if_pos ⟨t1, t2⟩]; rfl)
          have hbX : Below wr.heap.size wr (wr.alloc (.cells #[.int .i64 tag, .bool true, .int .u64 0, .slice bA bn bc] 35)) := (Below.refl _ _).alloc (Nat.le_refl _) _
          have hzX : wr.heap.size + 1 = (wr.alloc (.cells #[.int .i64 tag, .bool true, .int .u64 0, .slice bA bn bc] 35)).heap.size := by simp
          have HO1 := Lib.hid (own_below HO.out hbX)
          have HB1 := Lib.hid (below_then HBR.out hbX)
          have HZ1 := Lib.hid (Nat.le_trans HZ.out hbX.size)
          have HZX := Lib.hid hzX
          clear hbX hzX
          go_wp2_with (at_builtin; refine wpList_pushG HEB.out rfl _ _ rfl w2.heap.size _ _ _ [.int .i64 tag, .bool true, .int .u64 0, .slice bA bn bc] _ w2 _ HZX.out rfl rfl rfl rfl fcells_oneF HO1.out HB1.out HZ1.out hk1 heb ?_)
          intro v7 w7 ho7 hb7 _ _
          have HREL := Lib.hid (show FInRel l w2 v7 (.int .i64 ((k + 1 : Nat) : Int)) w7 from ⟨k + 1, HKL.out, rfl, by rw [HSN.out, List.length_append, List.flatMap_append]; exact ho7, hb7⟩)
          clear ho7 hb7
          go_wp2
          go_roundw
          case rel => exact HREL.out
          case measure => simp [intOf]; omega
        · have HSN := Lib.hid (show fin (l.take (k + 1)) = fin (l.take k) ++ [] by rw [HSN.out, if_neg (fun h => t2 h.2)])
          have hbX : Below wr.heap.size wr (wr.alloc (.cells #[.int .i64 tag, .bool true, .int .u64 0, .slice bA bn bc] 35)) := (Below.refl _ _).alloc (Nat.le_refl _) _
          have HREL := Lib.hid (show FInRel l w2 u6 (.int .i64 ((k + 1 : Nat) : Int)) (wr.alloc (.cells #[.int .i64 tag, .bool true, .int .u64 0, .slice bA bn bc] 35)) from ⟨k + 1, HKL.out, rfl, by rw [HSN.out, List.append_nil]; exact own_below HO.out hbX, below_then HBR.out hbX⟩)
          clear hbX
          go_wp2
          go_roundw
          case rel => exact HREL.out
          case measure => simp [intOf]; omega
      · have HSN := Lib.hid (show fin (l.take (k + 1)) = fin (l.take k) ++ [] by rw [HSN.out, if_neg (fun h => t1 h.1)])
        have hbX : Below wr.heap.size wr (wr.alloc (.cells #[.int .i64 tag, .bool true, .int .u64 0, .slice bA bn bc] 35)) := (Below.refl _ _).alloc (Nat.le_refl _) _
        have HREL := Lib.hid (show FInRel l w2 u6 (.int .i64 ((k + 1 : Nat) : Int)) (wr.alloc (.cells #[.int .i64 tag, .bool true, .int .u64 0, .slice bA bn bc] 35)) from ⟨k + 1, HKL.out, rfl, by rw [HSN.out, List.append_nil]; exact own_below HO.out hbX, below_then HBR.out hbX⟩)
        clear hbX
        go_wp2
        go_roundw
        case rel => exact HREL.out
        case measure => simp [intOf]; omega
    | false =>
      by_cases t1 : 1 ≤ tag
      · by_cases t2 : tag ≤ 100
        · have HSN := Lib.hid (show fin (l.take (k + 1)) = fin (l.take k) ++ [⟨tag, false, nn, [], .slice none 0 0⟩] by rw [HSN.out, if_pos ⟨t1, t2⟩]; rfl)
          have hbX : Below wr.heap.size wr (wr.alloc (.cells #[.int .i64 tag, .bool false, .int .u64 (nn : Int), .slice none 0 0] 35)) := (Below.refl _ _).alloc (Nat.le_refl _) _
          have hzX : wr.heap.size + 1 = (wr.alloc (.cells #[.int .i64 tag, .bool false, .int .u64 (nn : Int), .slice none 0 0] 35)).heap.size := by simp
          have HO1 := Lib.hid (own_below HO.out hbX)
          have HB1 := Lib.hid (below_then HBR.out hbX)
          have HZ1 := Lib.hid (Nat.le_trans HZ.out hbX.size)
          have HZX := Lib.hid hzX
          clear hbX hzX
          go_wp2_with (at_builtin; refine wpList_pushG HEB.out rfl _ _ rfl w2.heap.size _ _ _ [.int .i64 tag, .bool false, .int .u64 (nn : Int), .slice none 0 0] _ w2 _ HZX.out rfl rfl rfl rfl fcells_oneF HO1.out HB1.out HZ1.out hk1 heb ?_)
          intro v7 w7 ho7 hb7 _ _
          have HREL := Lib.hid (show FInRel l w2 v7 (.int .i64 ((k + 1 : Nat) : Int)) w7 from ⟨k + 1, HKL.out, rfl, by rw [HSN.out, List.length_append, List.flatMap_append]; exact ho7, hb7⟩)
          clear ho7 hb7
          go_wp2
          go_roundw
          case rel => exact HREL.out
          case measure => simp [intOf]; omega
        · have HSN := Lib.hid (show fin (l.take (k + 1)) = fin (l.take k) ++ [] by rw [HSN.out, if_neg (fun h => t2 h.2)])
          have hbX : Below wr.heap.size wr (wr.alloc (.cells #[.int .i64 tag, .bool false, .int .u64 (nn : Int), .slice none 0 0] 35)) := (Below.refl _ _).alloc (Nat.le_refl _) _
          have HREL := Lib.hid (show FInRel l w2 u6 (.int .i64 ((k + 1 : Nat) : Int)) (wr.alloc (.cells #[.int .i64 tag, .bool false, .int .u64 (nn : Int), .slice none 0 0] 35)) from ⟨k + 1, HKL.out, rfl, by rw [HSN.out, List.append_nil]; exact own_below HO.out hbX, below_then HBR.out hbX⟩)
          clear hbX
          go_wp2
          go_roundw
          case rel => exact HREL.out
          case measure => simp [intOf]; omega
      · have HSN := Lib.hid (show fin (l.take (k + 1)) = fin (l.take k) ++ [] by rw [HSN.out, if_neg (fun h => t1 h.1)])
        have hbX : Below wr.heap.size wr (wr.alloc (.cells #[.int .i64 tag, .bool false, .int .u64 (nn : Int), .slice none 0 0] 35)) := (Below.refl _ _).alloc (Nat.le_refl _) _
        have HREL := Lib.hid (show FInRel l w2 u6 (.int .i64 ((k + 1 : Nat) : Int)) (wr.alloc (.cells #[.int .i64 tag, .bool false, .int .u64 (nn : Int), .slice none 0 0] 35)) from ⟨k + 1, HKL.out, rfl, by rw [HSN.out, List.append_nil]; exact own_below HO.out hbX, below_then HBR.out hbX⟩)
        clear hbX
        go_wp2
        go_roundw
        case rel => exact HREL.out
        case measure => simp [intOf]; omega
set_option maxRecDepth 100000 in
theorem WireBack_lifted (os : Os) (started : os.Started) (H : Type) (enc : TypeId × Value → H) :
    ReturnsInHanded {} Try.checked os 4 .any (Rows.wireBackSpec.pre6 enc Try.prog Try.f4 Rows.wireBackRow.domain false) (Rows.wireBackSpec.post enc Try.prog Try.f4 false true false false) := by
  refine returnsInHanded_of_change (C := Try.checked) own started (by kernel_rfl) Try.func4
    (ChangeSpec.witness6 (enc := enc) (C := Try.checked) false ⟨#[], #[.slice none 0 0, .int .i64 0], []⟩ 8 (by kernel_rfl) (by kernel_rfl) (by kernel_rfl) (by kernel_rfl)) ?_
  intro W base args ds gs before hval0 hW hcnd _
  have hval : ∀ (j : Nat) t v, Try.f4.params[j]? = some t → args[j]? = some v → Value.okWide Try.prog W .any base t v := hval0
  have hW' := hW
  obtain ⟨p, q, hT0, hV, rfl, hfz, hnd⟩ := hW
  have hA : DataW.TrodAll enc Try.prog W 0 (fun _ => true) true Try.f4.params.toList args.toList ds p := hT0
  rw [Try.params4] at hA hval
  obtain ⟨v0, vs0, d0, ds0, p0, q0, hargs, rfl, rfl, h0, r0⟩ := trodAll_cons hA
  obtain ⟨v1, vs1, d1, ds1, p1, q1, rfl, rfl, rfl, h1, r1⟩ := trodAll_cons r0
  obtain ⟨rfl, rfl, rfl⟩ := trodAll_nil r1
  obtain rfl : args = #[v0, v1] := by cases args; simp_all
  obtain ⟨rfl, rfl⟩ := trodVars_none hV
  have hlt0 : ∀ x ∈ p0, x.block < W.heap.size := fun x hx => hW'.lt x (by simp [hx])
  obtain ⟨l0, hl0⟩ := open_fields (hval 0 22 v0 rfl rfl) h0 hlt0
  obtain ⟨a1, rfl, rfl, rfl, w1⟩ := open_int Try.underlying3 (hval 1 3 v1 rfl rfl) h1
  clear hT0 hval0
  refine (WireBack_walk W v0 l0 hl0 a1 (wf_i64 w1).1 (wf_i64 w1).2).mono fun e W' ⟨he, hb⟩ => ?_
  subst he
  exact ⟨_, rfl, law_post laidOut Try.underlying4 (by kernel_rfl) (by kernel_rfl) rfl hW' rfl hb⟩

theorem WireBack_over : Rows.wireBackRow.holds Try.pinned (OpenSpec.ofChange Rows.wireBackSpec) :=
  OpenClaim.holds_of_wide 4 Try.f4 rfl rfl rfl rfl rfl rfl rfl ⟨rfl, rfl, rfl, rfl, rfl⟩ rfl rfl rfl rfl rfl (by kernel_rfl) Try.func4 (by kernel_rfl)
    (of_decide_eq_true (by kernel_rfl)) (by unfold Func.isWrapper; first | (rw [if_pos (by decide +kernel)]; kernel_rfl) | (rw [if_neg (by decide +kernel)]; exact ⟨rfl, rfl⟩))
    (fun os started H enc _ => WireBack_lifted os started H enc)

theorem WireBack_holds : Rows.WireBackSaid := WireBack_over
#print axioms WireBack_holds

end Go.Proofs.Ytocodcceimeiiaa
