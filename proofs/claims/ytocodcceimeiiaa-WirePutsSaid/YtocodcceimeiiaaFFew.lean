
/- Fields that come in; the statements' few of layer 19: at most 60 fields, of 300 bytes each. -/

import Derived.Test.YtocodcceimeiiaaFTk

import Derived.Test.YtocodcceimeiiaaWOpen

namespace Go.Proofs.Ytocodcceimeiiaa

open Go.RowKit Go.ChangeShapes Go.WideShapes Go.ChangeAt

structure FIn (f : FN) (w : World) : Prop where
  byt : IsB f.b f.lv w
  tag : inInt f.tag
  n : f.n < 18446744073709551616
theorem FIn.below {f : FN} {w w' : World} (h : FIn f w) (hb : Below w.heap.size w w') : FIn f w' := ⟨h.byt.below hb, h.tag, h.n⟩
/-- Fields that came in, of any length. -/
def IsFieldsIn (l : List FN) (v : Value) (w : World) : Prop := IsR fcells l v w ∧ ∀ f ∈ l, FIn f w
theorem IsFieldsIn.below {l : List FN} {v : Value} {w w' : World} (h : IsFieldsIn l v w) (hb : Below w.heap.size w w') : IsFieldsIn l v w' := ⟨h.1.below hb, fun f hf => (h.2 f hf).below hb⟩
instance : Inhabited FN := ⟨⟨0, false, 0, [], .slice none 0 0⟩⟩
section

variable {H : Type} {enc : TypeId × Value → H} {W : World} {v : Value} {d : DataW H} {ps : List MemPlace} {base : Nat}
theorem Try.cells_intF : Try.prog.cellsOf 3 = 1 := by kernel_rfl
theorem Try.cells_boolF : Try.prog.cellsOf 4 = 1 := by kernel_rfl
theorem Try.cells_u64F : Try.prog.cellsOf 33 = 1 := by kernel_rfl
theorem Try.cells_bytesF : Try.prog.cellsOf 25 = 1 := by kernel_rfl
set_option maxRecDepth 100000 in
set_option maxHeartbeats 2000000 in
theorem open_fields (hval : Value.okWide Try.prog W .any base 22 v) (hd : DataW.Trod enc Try.prog W 0 (fun _ => true) true 22 v d ps) (hlt : ∀ x ∈ ps, x.block < W.heap.size) : ∃ l : List FN, IsFieldsIn l v W := by
  obtain ⟨a0, len, cap, rfl⟩ := okWide_slice Try.underlying22 hval
  obtain ⟨fuel, hf0⟩ := hd
  obtain ⟨l, h1, h2⟩ := open_wide0 (enc := enc) (f := fcells) (m := 4) (p := fun n => FIn n W) (y := (d, ps)) Try.underlying22 (by kernel_rfl) (by omega) (fun _ => rfl) (fun cs n x hlen h hq => by
    obtain ⟨xs, k, hk, hxy, _, hxl, hf⟩ := DataW.trod_struct Try.underlying35 h
    match xs, hxl, cs, hlen with
    | [y0, y1, y2, y3], _, [v0, v1, v2, v3], _ =>
      have g0 := hf 0 _ rfl
      have g1 := hf 1 _ rfl
      have g2 := hf 2 _ rfl
      have g3 := hf 3 _ rfl
      simp [Try.cells_intF, Try.cells_boolF, Try.cells_u64F, Try.cells_bytesF] at g0 g1 g2 g3
      obtain ⟨i0, e0, _, w0⟩ := DataW.trod_int Try.underlying3 g0
      obtain ⟨b1, e1, _⟩ := DataW.trod_bool Try.underlying4 g1
      obtain ⟨i2, e2, _, w2⟩ := DataW.trod_int Try.underlying33 g2
      obtain ⟨l3, l31⟩ := open_bytes0 Try.underlying25 Try.underlying5 (by kernel_rfl) g3 fun q hq2 => hq q (by rw [hxy]; simp [hq2])
      simp at e0 e1 e2
      subst e0 e1 e2
      have u2 := wf_u64 w2
      obtain ⟨m, rfl⟩ := Int.eq_ofNat_of_zero_le u2.1
      exact ⟨⟨i0, b1, m, l3, v3⟩, rfl, l31, wf_i64 w0, by dsimp only; omega⟩) (by simpa [Value.cells] using hf0) hlt
  exact ⟨l, h1, h2⟩
end
def fcutv : Value → Value
  | .slice A _ c => .slice A 300 c
  | v => v
def fcut (f : FN) : FN := if 300 < f.b.length then ⟨f.tag, f.bytes, f.n, f.b.take 300, fcutv f.lv⟩ else f
def ffewL (l : List FN) : List FN := (l.take 60).map fcut
theorem ffewL_len (l : List FN) : (ffewL l).length ≤ 60 := by unfold ffewL; rw [List.length_map, List.length_take]; omega
theorem fcut_at {f : FN} {w : World} (h : FIn f w) : FAt (fcut f) w ∧ (fcut f).b.length ≤ 300 := by
  obtain ⟨tag, bytes, n, b, lv⟩ := f
  obtain ⟨h1, h2, h3⟩ := h
  dsimp only at h1 h2 h3
  unfold fcut
  dsimp only
  split
  · rename_i hl
    obtain ⟨A, m, c, rfl⟩ := IsV.shape (f := bv) h1
    have hm := (IsV.parts (f := bv) h1).1
    have hlt : (b.take 300).length ≤ 300 := by rw [List.length_take]; omega
    exact ⟨⟨IsV.take (f := bv) h1 (by omega), h2, h3, by dsimp only; omega⟩, hlt⟩
  · exact ⟨⟨h1, h2, h3, by dsimp only; omega⟩, by dsimp only; omega⟩
theorem ffewL_at {l : List FN} {w : World} (h : ∀ f ∈ l, FIn f w) : ∀ f ∈ ffewL l, FAt f w ∧ f.b.length ≤ 300 := by
  intro f hf
  obtain ⟨g, hg, rfl⟩ := List.mem_map.1 hf
  exact fcut_at (h g (List.mem_of_mem_take hg))
/-- What few answers. -/
def RetFewF (w : World) (l : List FN) (e : Ending) (w' : World) : Prop := ∃ v, e = .returned v ∧ w'.ownsRow w.heap.size 35 4 v (ffewL l).length ((ffewL l).flatMap fcells) ∧ Below w.heap.size w w'
def FFewRel (l : List FN) (w : World) (out i : Value) (wr : World) : Prop := ∃ k : Nat, k ≤ l.length ∧ k ≤ 60 ∧ i = .int .i64 (k : Int) ∧ wr.ownsRow w.heap.size 35 4 out k (((l.take k).map fcut).flatMap fcells) ∧ Below w.heap.size w wr
theorem ffew_next {l : List FN} {k : Nat} (h : k < l.length) : ((l.take (k + 1)).map fcut).flatMap fcells = ((l.take k).map fcut).flatMap fcells ++ fcells (fcut l[k]) := by
  rw [List.take_succ_eq_append_getElem h, List.map_append, List.flatMap_append]
  simp
theorem fcells_oneF {tag : Int} {bytes : Bool} {n : Int} {A : Option Addr} {k c : Nat} : ∀ u ∈ [Value.int .i64 tag, .bool bytes, .int .u64 n, .slice A k c], u.oneCell' = true := by
  intro x hx
  simp only [List.mem_cons, List.not_mem_nil, or_false] at hx
  rcases hx with rfl | rfl | rfl | rfl <;> rfl
set_option maxHeartbeats 4000000 in
set_option maxRecDepth 100000 in
theorem ffewK_any (l : List FN) (v : Value) (w : World) (h : IsFieldsIn l v w) :
    Calls Try.prog 7 #[v] w (RetFewF w l) := by
  obtain ⟨A, n, c, rfl⟩ := h.1.shape
  obtain ⟨eb, heb, hE⟩ := elemFN
  have HEB := Lib.hid hE
  have HF := Lib.hid h
  have HN := Lib.hid h.1.parts.1
  have hnm : (n : Int) ≤ 9223372036854775807 := by have h1 := h.1.parts.2.2.1; have h2 := h.1.parts.2.2.2.1; unfold maxLen at h2; omega
  have HST : Hid (FFewRel l w (.slice (some ⟨w.heap.size, 0, none⟩) 0 0) (.int .i64 0) (w.alloc (.cells #[] 35))) := Lib.hid ⟨0, Nat.zero_le _, by omega, rfl, by simpa using ownW_made w 35 4, (Below.refl _ _).alloc (Nat.le_refl _) _⟩
  clear h hE
  go_enter Try.func7, Try.ntmps7
  go_wp2
  go_loopw [3, 4] (FFewRel l w) (fun _ i _ => 60 - (intOf i).toNat)
  case atStart => exact HST.out
  case round =>
    obtain ⟨k, hk, hk6, rfl, how, hbw⟩ := hrel
    clear HST
    by_cases hlt : k < n
    case neg =>
      have hlti : ¬ (k : Int) < (n : Int) := by omega
      obtain rfl : k = l.length := by have := HN.out; omega
      have HR := Lib.hid (show RetFewF w l (.returned u3) wr from ⟨_, rfl, by
        unfold ffewL
        rw [List.take_of_length_le hk6]
        rw [List.take_length] at how
        rw [List.length_map]
        exact how, hbw⟩)
      clear how hbw
      go_wp2
      go_ret
      exact HR.out
    have hlti : (k : Int) < (n : Int) := by omega
    by_cases h60 : k < 60
    case neg =>
      obtain rfl : k = 60 := by omega
      have h6i : ¬ (((60 : Nat) : Int) < 60) := by omega
      have HR := Lib.hid (show RetFewF w l (.returned u3) wr from ⟨_, rfl, by
        unfold ffewL
        rw [List.length_map, List.length_take, Nat.min_eq_left hk]
        exact how, hbw⟩)
      clear how hbw
      go_wp2
      go_ret
      exact HR.out
    have h6i : (k : Int) < 60 := by omega
    have hkl : k < l.length := by have := HN.out; omega
    obtain ⟨ad, rfl, had, hcell⟩ := ((HF.out.below hbw).1).at (m := 4) (fun _ => rfl) (by omega) hkl
    have hat := HF.out.2 _ (List.getElem_mem hkl)
    have hsn := ffew_next hkl
    obtain ⟨x, hx⟩ : ∃ x, x = l[k] := ⟨_, rfl⟩
    rw [← hx] at hcell hat hsn
    obtain ⟨c0, c1, c2, c3⟩ := cells4 hcell
    obtain ⟨tag, bytes, nn, bs, lv⟩ := x
    have hbt := hat.byt
    dsimp only at c0 c1 c2 c3 hbt
    obtain ⟨bA, bn, bc, rfl⟩ := IsV.shape (f := bv) hbt
    have HBL := Lib.hid (IsV.parts (f := bv) hbt).1
    have hbnc := (IsV.parts (f := bv) hbt).2.2.1
    have hbcm := (IsV.parts (f := bv) hbt).2.2.2.1
    have hbci : (bc : Int) ≤ 9223372036854775807 := by unfold maxLen at hbcm; omega
    have HSN := Lib.hid hsn
    have HO := Lib.hid how
    have HB := Lib.hid hbw
    have HKL := Lib.hid hkl
    have HZ := Lib.hid hbw.size
    have hk1 : k ≤ 1000000000 := by omega
    clear hcell hat hsn how hbw hx hkl hbt hk hk6 hbcm
    by_cases h3 : 300 < bn
    · have d1 : decide ((300 : Int) < (bn : Int)) = true := decide_eq_true (by omega)
      have d2 : (300 : Int) ≤ (bc : Int) := by omega
      have HSE := Lib.hid (show ((l.take (k + 1)).map fcut).flatMap fcells = ((l.take k).map fcut).flatMap fcells ++ [.int .i64 tag, .bool bytes, .int .u64 (nn : Int), .slice bA 300 bc] by
        rw [HSN.out]
        unfold fcut
        dsimp only
        rw [if_pos (by have := HBL.out; omega)]
        rfl)
      clear h3
      have hbX : Below wr.heap.size wr (wr.alloc (.cells #[.int .i64 tag, .bool bytes, .int .u64 (nn : Int), .slice bA 300 bc] 35)) := (Below.refl _ _).alloc (Nat.le_refl _) _
      have hzX : wr.heap.size + 1 = (wr.alloc (.cells #[.int .i64 tag, .bool bytes, .int .u64 (nn : Int), .slice bA 300 bc] 35)).heap.size := by simp
      have HO1 := Lib.hid (own_below HO.out hbX)
      have HB1 := Lib.hid (below_then HB.out hbX)
      have HZ1 := Lib.hid (Nat.le_trans HZ.out hbX.size)
      have HZX := Lib.hid hzX
      clear hbX hzX
      go_wp2_with (at_builtin; refine wpList_pushG HEB.out rfl _ _ rfl w.heap.size _ _ _ [.int .i64 tag, .bool bytes, .int .u64 (nn : Int), .slice bA 300 bc] _ w _ HZX.out rfl rfl rfl rfl fcells_oneF HO1.out HB1.out HZ1.out hk1 heb ?_)
      intro v7 w7 ho7 hb7 _ _
      have HREL := Lib.hid (show FFewRel l w v7 (.int .i64 ((k + 1 : Nat) : Int)) w7 from ⟨k + 1, HKL.out, by omega, rfl, by rw [HSE.out, List.map_take]; exact ho7, hb7⟩)
      clear ho7 hb7
      go_wp2
      go_roundw
      case rel => exact HREL.out
      case measure => simp [intOf]; omega
    · have d1 : decide ((300 : Int) < (bn : Int)) = false := decide_eq_false (by omega)
      have HSE := Lib.hid (show ((l.take (k + 1)).map fcut).flatMap fcells = ((l.take k).map fcut).flatMap fcells ++ [.int .i64 tag, .bool bytes, .int .u64 (nn : Int), .slice bA bn bc] by
        rw [HSN.out]
        unfold fcut
        dsimp only
        rw [if_neg (by have := HBL.out; omega)]
        rfl)
      clear h3
      have hbX : Below wr.heap.size wr (wr.alloc (.cells #[.int .i64 tag, .bool bytes, .int .u64 (nn : Int), .slice bA bn bc] 35)) := (Below.refl _ _).alloc (Nat.le_refl _) _
      have hzX : wr.heap.size + 1 = (wr.alloc (.cells #[.int .i64 tag, .bool bytes, .int .u64 (nn : Int), .slice bA bn bc] 35)).heap.size := by simp
      have HO1 := Lib.hid (own_below HO.out hbX)
      have HB1 := Lib.hid (below_then HB.out hbX)
      have HZ1 := Lib.hid (Nat.le_trans HZ.out hbX.size)
      have HZX := Lib.hid hzX
      clear hbX hzX
      go_wp2_with (at_builtin; refine wpList_pushG HEB.out rfl _ _ rfl w.heap.size _ _ _ [.int .i64 tag, .bool bytes, .int .u64 (nn : Int), .slice bA bn bc] _ w _ HZX.out rfl rfl rfl rfl fcells_oneF HO1.out HB1.out HZ1.out hk1 heb ?_)
      intro v7 w7 ho7 hb7 _ _
      have HREL := Lib.hid (show FFewRel l w v7 (.int .i64 ((k + 1 : Nat) : Int)) w7 from ⟨k + 1, HKL.out, by omega, rfl, by rw [HSE.out, List.map_take]; exact ho7, hb7⟩)
      clear ho7 hb7
      go_wp2
      go_roundw
      case rel => exact HREL.out
      case measure => simp [intOf]; omega
end Go.Proofs.Ytocodcceimeiiaa
