
/- nulls' own contracts: something, whole, each (a generic function, at two pairs of types, called with a function and with a closure), Split. -/

import Derived.Test.YtffglnccpbbclaaNRTake

import Derived.Test.YtffglnccpbbclaaQIs

import Derived.Test.YtffglnccpbbclaaWMake

namespace Go.Proofs.Ytffglnccpbbclaa

open Go.RowKit

theorem box_row (x : CV) (w : World) : Row (w.alloc (.cells #[.bool x.null, .int .i64 x.n, .string x.s] 42)) w.heap.size 42 [.bool x.null, .int .i64 x.n, .string x.s] := heap_alloc_new w _
theorem nsomething_any (x : CV) (w : World) : Calls Try.prog 19 #[cv x] w fun e w' => e = .returned (.bool (!x.null)) ∧ Below w.heap.size w w' := by
  obtain ⟨xb, xn, xs⟩ := x
  have hA := box_row ⟨xb, xn, xs⟩ w
  have a0 := hA.cell 0
  have hb : Below w.heap.size w (w.alloc (.cells #[.bool xb, .int .i64 xn, .string xs] 42)) := (Below.refl _ _).alloc (Nat.le_refl _) _
  have HBE := Lib.hid hb
  clear hA hb
  unfold cv
  go_enter Try.func19, Try.ntmps19
  go_wp2
  go_ret
  exact ⟨rfl, HBE.out⟩
theorem nwhole_any (l : List Bool) (v : Value) (b : Bool) (w : World) (hv : IsV Value.bool l v w) (hb : l.length ≤ 1000000) (hq : (qcount l == l.length) = b) :
    Calls Try.prog 22 #[v] w fun e w' => e = .returned (.bool b) ∧ w = w' := by
  have HQ := Lib.hid (qcount_is l v w hv hb)
  obtain ⟨A, n, c, rfl⟩ := hv.shape
  have hn := hv.parts.1
  obtain ⟨q, hqq⟩ : ∃ q, q = qcount l := ⟨_, rfl⟩
  rw [← hqq, hn] at hq
  rw [← hqq] at HQ
  have hz : ((q : Int) == (n : Int)) = b := by rw [← hq, Bool.eq_iff_iff, beq_iff_eq, beq_iff_eq]; omega
  clear hq hqq hv hb hn
  go_enter Try.func22, Try.ntmps22
  go_wp2_with (go_at_call 21; refine HQ.out.mono ?_; rintro e w' ⟨rfl, rfl⟩)
  go_ret
  exact ⟨rfl, rfl⟩
theorem npresent_at (l : List CV) {k : Nat} (h : k < l.length) : (npresent l).take (k + 1) = (npresent l).take k ++ [!l[k].null] := by
  rw [List.take_succ_eq_append_getElem (by rw [npresent_len]; exact h)]
  simp [npresent]
def NEachVRel (T : List Bool) (m g : Nat) (w : World) (i : Value) (wr : World) : Prop :=
  ∃ (k : Nat) (o : List Bool), k ≤ m ∧ i = .int .i64 (k : Int) ∧ o.length = m ∧ o.take k = T.take k ∧ Row wr g 4 (o.map Value.bool) ∧ Below g w wr
set_option maxHeartbeats 2000000 in
set_option maxRecDepth 100000 in
/-- Which are something. -/
theorem neachV_any (l : List CV) (v : Value) (w : World) (hv : IsR kcells l v w) (hb : l.length ≤ 1000000) :
    Calls Try.prog 20 #[v, .func (.func 19) #[] #[]] w fun e w' => ∃ u, e = .returned u ∧ IsV Value.bool (npresent l) u w' ∧ Below w.heap.size w w' := by
  obtain ⟨A, n, c, rfl⟩ := hv.shape
  have HN := Lib.hid hv.parts.1
  have HV := Lib.hid hv
  have hn6 : n ≤ 1000000 := by have := HN.out; omega
  clear hv hb
  go_enter Try.func20, Try.ntmps20
  go_wp2_with (refine wpList_make elemL rfl _ _ rfl _ _ _ _ n w w.heap.size rfl rfl rfl rfl (by omega) (by omega) (Below.refl _ _) (Nat.le_refl _) ?_)
  intro w1 hr1 hb1
  have hst : NEachVRel (npresent l) n w.heap.size w (.int .i64 0) w1 := ⟨0, List.replicate n false, by omega, rfl, by simp, by simp, by simpa using hr1, hb1⟩
  clear hr1 hb1
  go_wp2
  go_loopw [13] (NEachVRel (npresent l) n w.heap.size w) (fun i _ => n - (intOf i).toNat)
  case atStart => exact hst
  case round =>
    obtain ⟨k, o, hk, rfl, ho, hok, hr, hbr⟩ := hrel
    have HO := Lib.hid ho
    have HOK := Lib.hid hok
    clear ho hok hst
    by_cases hlt : k < n
    · have hkl : k < l.length := by have := HN.out; omega
      have hlti : (k : Int) < (n : Int) := by omega
      obtain ⟨ad, rfl, had, hcell⟩ := (HV.out.below hbr).at (m := 3) (fun _ => rfl) (by omega) hkl
      obtain ⟨x, hx⟩ : ∃ x, x = l[k] := ⟨_, rfl⟩
      rw [← hx] at hcell
      obtain ⟨k0, k1, k2⟩ := cells3 hcell
      have HX := Lib.hid hx
      obtain ⟨xb, xn, xs⟩ := x
      dsimp only at k0 k1 k2
      have hbx := box_row ⟨xb, xn, xs⟩ wr
      have b0 := hbx.cell 0
      have b1 := hbx.cell 1
      have b2 := hbx.cell 2
      have hko : k < o.length := by have := HO.out; omega
      have HR := Lib.hid hr
      have HBR := Lib.hid hbr
      have HS := Lib.hid (nsomething_any ⟨xb, xn, xs⟩ (wr.alloc (.cells #[.bool xb, .int .i64 xn, .string xs] 42)))
      clear hcell had hx hr hbr hbx
      go_wp2_with fail
      refine HS.out.mono ?_
      rintro e w2 ⟨rfl, hb2⟩
      have hrw := (HR.out.alloc (.cells #[.bool xb, .int .i64 xn, .string xs] 42)).below hb2 (HR.out.alloc _).lt
      have hbw := (HBR.out.alloc (by have := HR.out.lt; omega) (.cells #[.bool xb, .int .i64 xn, .string xs] 42)).trans (hb2.mono (by simp; have := HR.out.lt; omega))
      have hcx : w2.cell? ⟨w.heap.size, k, none⟩ = some (Value.bool o[k]) := by rw [hrw.cell, List.getElem?_map, List.getElem?_eq_getElem hko]; rfl
      have hfx := hrw.free k
      have hr2 := hrw.set_ k (.bool (!xb))
      rw [show (o.map Value.bool).set k (.bool (!xb)) = (o.set k (!xb)).map Value.bool from List.map_set.symm] at hr2
      have HR2 := Lib.hid hr2
      have HBW := Lib.hid hbw
      clear hr2 hb2 hbw hrw b0 b1 b2 k0 k1 k2
      go_wp2
      go_roundw
      case rel =>
        refine ⟨k + 1, o.set k (!xb), by omega, by go_num, by rw [List.length_set]; exact HO.out, ?_, HR2.out, HBW.out.setCell (Nat.le_refl _) _⟩
        rw [set_take _ _ _ hko, HOK.out, npresent_at l hkl, ← HX.out]
      case measure => simp [intOf]; omega
    · obtain rfl : k = n := by omega
      have hlti : ¬ (k : Int) < (k : Int) := by omega
      have hT : o = npresent l := by
        have h1 := HOK.out
        rw [List.take_of_length_le (by rw [HO.out]; omega), List.take_of_length_le (by rw [npresent_len]; have := HN.out; omega)] at h1
        exact h1
      have HT := Lib.hid hT
      have HR := Lib.hid hr
      have HBR := Lib.hid hbr
      clear hT hr hbr
      go_wp2
      go_ret
      refine ⟨_, rfl, ?_, HBR.out⟩
      rw [← HT.out]
      exact isV_row HR.out HO.out (by omega)
def NSplRel (l : List CV) (w : World) (v i : Value) (wr : World) : Prop :=
  ∃ (k : Nat) (s : List CV), k ≤ l.length ∧ i = .int .i64 (k : Int) ∧ s = nsome (l.take k) ∧ wr.ownsRow w.heap.size 42 3 v s.length (s.flatMap kcells) ∧ Below w.heap.size w wr
set_option maxHeartbeats 2000000 in
set_option maxRecDepth 100000 in
theorem nsplit_any (l : List CV) (v : Value) (w : World) (hv : IsR kcells l v w) (hb : l.length ≤ 1000000) : Calls Try.prog 9 #[v] w (RetLR w (npresent l, nsome l)) := by
  obtain ⟨A, n, c, rfl⟩ := hv.shape
  have HN := Lib.hid hv.parts.1
  have HV := Lib.hid hv
  have hn6 : n ≤ 1000000 := by have := HN.out; omega
  have hst : NSplRel l w (.slice none 0 0) (.int .i64 0) w := ⟨0, [], Nat.zero_le _, rfl, rfl, ⟨by simp, .inl ⟨rfl, rfl⟩⟩, Below.refl _ _⟩
  clear hv hb
  go_enter Try.func9, Try.ntmps9
  go_wp2
  go_loopw [3, 8] (NSplRel l w) (fun _ i _ => n - (intOf i).toNat)
  case atStart => exact hst
  case round =>
    obtain ⟨k, s, hk, rfl, hs, hown, hbw⟩ := hrel
    clear hst
    have hkn : k ≤ n := by have := HN.out; omega
    have hz := hbw.size
    have hsl : s.length ≤ k := by rw [hs]; exact Nat.le_trans (nsome_len _) (by rw [List.length_take]; omega)
    have HS := Lib.hid hs
    obtain ⟨sn, hsn⟩ : ∃ sn, sn = s.length := ⟨_, rfl⟩
    rw [← hsn] at hown hsl
    have HSN := Lib.hid hsn
    clear hs hsn hk
    by_cases hlt : k < n
    · have hkl : k < l.length := by have := HN.out; omega
      have hlti : (k : Int) < (n : Int) := by omega
      obtain ⟨ad, rfl, had, hcell⟩ := (HV.out.below hbw).at (m := 3) (fun _ => rfl) (by omega) hkl
      obtain ⟨x, hx⟩ : ∃ x, x = l[k] := ⟨_, rfl⟩
      rw [← hx] at hcell
      obtain ⟨k0, k1, k2⟩ := cells3 hcell
      have HX := Lib.hid hx
      have HSY := Lib.hid (nsome_yes l hkl)
      have HSO := Lib.hid (nsome_no l hkl)
      obtain ⟨xb, xn, xs⟩ := x
      dsimp only at k0 k1 k2
      have hbx := box_row ⟨xb, xn, xs⟩ wr
      have b0 := hbx.cell 0
      have b1 := hbx.cell 1
      have b2 := hbx.cell 2
      have HBX := Lib.hid hbx
      have HOWN := Lib.hid hown
      have HBW := Lib.hid hbw
      have HSM := Lib.hid (nsomething_any ⟨xb, xn, xs⟩ (wr.alloc (.cells #[.bool xb, .int .i64 xn, .string xs] 42)))
      clear hcell had hx hbx hown hbw
      go_wp2_with fail
      refine HSM.out.mono ?_
      rintro e w2 ⟨rfl, hb2⟩
      have hbx2 := HBX.out.below hb2 HBX.out.lt
      have c0 := hbx2.cell 0
      have c1 := hbx2.cell 1
      have c2 := hbx2.cell 2
      have hown2 := own_below (ownW_alloc HOWN.out (.cells #[.bool xb, .int .i64 xn, .string xs] 42)) hb2
      have hbw2 := (HBW.out.alloc hz (.cells #[.bool xb, .int .i64 xn, .string xs] 42)).trans (hb2.mono (by simp; omega))
      have hz2 := hbw2.size
      clear hb2 hbx2 b0 b1 b2 k0 k1 k2
      cases xb with
      | true =>
        have HS2 := Lib.hid (show s = nsome (l.take (k + 1)) by rw [HSO.out (by rw [← HX.out]), HS.out])
        have HREL := Lib.hid (show NSplRel l w _ (.int .i64 ((k + 1 : Nat) : Int)) w2 from ⟨k + 1, s, hkl, rfl, HS2.out, by rw [← HSN.out]; exact hown2, hbw2⟩)
        clear hown2 hbw2 c0 c1 c2
        go_wp2
        go_roundw
        case rel => exact HREL.out
        case measure => simp [intOf]; omega
      | false =>
        have HS2 := Lib.hid (show s ++ [⟨false, xn, xs⟩] = nsome (l.take (k + 1)) by rw [HSY.out (by rw [← HX.out]), HS.out, ← HX.out])
        go_wp2_with (at_builtin; refine wpList_pushW elemW rfl _ _ rfl w.heap.size _ _ _ (kcells ⟨false, xn, xs⟩) w2 w rfl rfl rfl rfl (kcells_one _) hown2 hbw2 hz2 (by omega) (by omega) ?_)
        intro v7 w7 hown7 hb7 hg7 _
        have HREL := Lib.hid (show NSplRel l w v7 (.int .i64 ((k + 1 : Nat) : Int)) w7 from ⟨k + 1, _, hkl, rfl, HS2.out, by rw [List.length_append, List.length_singleton, ← HSN.out, flat_snoc]; exact hown7, hb7⟩)
        clear hown7 hb7 hg7 hown2 hbw2 c0 c1 c2
        go_wp2
        go_roundw
        case rel => exact HREL.out
        case measure => simp [intOf]; omega
    · obtain rfl : k = n := by omega
      have hlti : ¬ (k : Int) < (k : Int) := by omega
      have HT := Lib.hid (show l.take k = l from List.take_of_length_le (by have := HN.out; omega))
      have HI2 := Lib.hid (isR_own (m := 3) (fun _ => rfl) (by omega) hown)
      have HB := Lib.hid hbw
      have HE := Lib.hid (neachV_any l _ wr (HV.out.below hbw) (by have := HN.out; omega))
      clear hown hbw
      go_wp2_with fail
      refine HE.out.mono ?_
      rintro e w3 ⟨u3, rfl, hu3, hb3⟩
      have HU3 := Lib.hid hu3
      have HI3 := Lib.hid (HI2.out.below hb3)
      have HB3 := Lib.hid (below_then HB.out hb3)
      clear hu3 hb3
      go_wp2
      go_ret2
      refine ⟨_, _, rfl, HU3.out, ?_, HB3.out⟩
      have h := HI3.out
      rw [HS.out, HT.out] at h
      exact h
end Go.Proofs.Ytffglnccpbbclaa
