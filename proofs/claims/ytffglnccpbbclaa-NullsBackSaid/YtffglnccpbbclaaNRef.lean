
/- Contracts of layer 13's reference: Split, Join; and of layer 12's SameRow. -/

import Derived.Test.YtffglnccpbbclaaNPlain

import Derived.Test.YtffglnccpbbclaaKRef

import Derived.Test.YtffglnccpbbclaaWRow

import Derived.Test.YtffglnccpbbclaaQRTake

namespace Go.Proofs.Ytffglnccpbbclaa

open Go.RowKit

theorem Try.infoV : (Try.prog.info? 42).map (fun i => (i.zero, i.size, i.bytes)) = some (some (cv ⟨false, 0, ⟨#[]⟩⟩), 3, 32) := by kernel_rfl
theorem elemW : ElemW Try.prog 22 42 32 3 (cv ⟨false, 0, ⟨#[]⟩⟩) := by
  obtain ⟨i0, hi, hz0, hz1, hz2⟩ := info_parts Try.infoV
  exact ⟨Try.underlying22, rfl, by omega, i0, hi, hz0, hz1, hz2⟩
theorem kcells_one (x : CV) : ∀ u ∈ kcells x, u.oneCell' = true := by
  intro u hu
  unfold kcells at hu
  simp at hu
  rcases hu with rfl | rfl | rfl <;> rfl
theorem flat_one (l : List CV) : ∀ u ∈ l.flatMap kcells, u.oneCell' = true := by
  intro u hu
  obtain ⟨x, _, hx⟩ := List.mem_flatMap.1 hu
  exact kcells_one x u hx
/-- Truths and values that a call answers. -/
def RetLR (w : World) (p : List Bool × List CV) (e : Ending) (w' : World) : Prop := ∃ u v, e = .returned (.tuple #[u, v]) ∧ IsV Value.bool p.1 u w' ∧ IsR kcells p.2 v w' ∧ Below w.heap.size w w'
/-- Values and an error. -/
def RetRE (w : World) (p : List CV × Int) (e : Ending) (w' : World) : Prop := ∃ v, e = .returned (.tuple #[v, .int .i64 p.2]) ∧ IsR kcells p.1 v w' ∧ Below w.heap.size w w'
theorem RetRE.nil {w w' : World} (n : Int) (hb : Below w.heap.size w w') : RetRE w ([], n) (.returned (.tuple #[.slice none 0 0, .int .i64 n])) w' := ⟨_, rfl, isR_nil _ _, hb⟩
/-- The cells of a value in a slice. -/
theorem cells3 {w : World} {ad : Addr} {k : Nat} {x : CV} (h : ∀ i, i < 3 → w.cell? (ad.add (k * 3 + i)) = (kcells x)[i]?) :
    w.cell? (ad.add (k * 3)) = some (.bool x.null) ∧ w.cell? ⟨(ad.add (k * 3)).block, (ad.add (k * 3)).off + 1, none⟩ = some (.int .i64 x.n) ∧ w.cell? ⟨(ad.add (k * 3)).block, (ad.add (k * 3)).off + 2, none⟩ = some (.string x.s) := by
  refine ⟨h 0 (by omega), ?_, ?_⟩
  · have h1 := h 1 (by omega); rw [← add_add] at h1; exact h1
  · have h1 := h 2 (by omega); rw [← add_add] at h1; exact h1
def NSplitRel (l : List CV) (w : World) (u v i : Value) (wr : World) : Prop :=
  ∃ (k : Nat) (p : List Bool) (s : List CV), k ≤ l.length ∧ i = .int .i64 (k : Int) ∧ p = npresent (l.take k) ∧ s = nsome (l.take k) ∧
    wr.ownsRow w.heap.size 4 1 u p.length (p.map Value.bool) ∧ wr.ownsRow w.heap.size 42 3 v s.length (s.flatMap kcells) ∧ Below w.heap.size w wr
set_option maxHeartbeats 2000000 in
set_option maxRecDepth 100000 in
theorem rsplit13_any (l : List CV) (v : Value) (w : World) (hv : IsR kcells l v w) (hb : l.length ≤ 1000000) :
    Calls Try.prog 10 #[v] w (RetLR w (npresent l, nsome l)) := by
  obtain ⟨A, n, c, rfl⟩ := hv.shape
  have HN := Lib.hid hv.parts.1
  have HV := Lib.hid hv
  have hn6 : n ≤ 1000000 := by have := HN.out; omega
  have hst : NSplitRel l w (.slice (some ⟨w.heap.size, 0, none⟩) 0 0) (.slice (some ⟨w.heap.size + 1, 0, none⟩) 0 0) (.int .i64 0) ((w.alloc (.cells #[] 4)).alloc (.cells #[] 42)) := by
    have h1 := ownW_made w 4 1
    have h2 := ownW_made (w.alloc (.cells #[] 4)) 42 3
    rw [show (w.alloc (.cells #[] 4)).heap.size = w.heap.size + 1 by simp] at h2
    refine ⟨0, [], [], Nat.zero_le _, rfl, rfl, rfl, ownW_alloc h1 _, ?_, ((Below.refl _ _).alloc (Nat.le_refl _) _).alloc (by simp) _⟩
    exact ownW_base (Nat.le_succ _) h2
  clear hv hb
  go_enter Try.func10, Try.ntmps10
  go_wp2
  go_loopw [4, 5, 6] (NSplitRel l w) (fun _ _ i _ => n - (intOf i).toNat)
  case atStart => exact hst
  case round =>
    obtain ⟨k, p, s, hk, rfl, hp, hs, hown1, hown2, hbw⟩ := hrel
    clear hst
    have hkn : k ≤ n := by have := HN.out; omega
    have hz := hbw.size
    have hpl : p.length = k := by rw [hp, npresent_len, List.length_take]; omega
    have hsl : s.length ≤ k := by rw [hs]; exact Nat.le_trans (nsome_len _) (by rw [List.length_take]; omega)
    have HP := Lib.hid hp
    have HS := Lib.hid hs
    have HPL := Lib.hid hpl
    rw [hpl] at hown1
    obtain ⟨sn, hsn⟩ : ∃ sn, sn = s.length := ⟨_, rfl⟩
    rw [← hsn] at hown2 hsl
    have HSN := Lib.hid hsn
    clear hp hs hpl hsn hk
    by_cases hlt : k < n
    · have hkl : k < l.length := by have := HN.out; omega
      have hlti : (k : Int) < (n : Int) := by omega
      have HAT := Lib.hid fun (X : World) (h : Below w.heap.size w X) => (HV.out.below h).at (m := 3) (fun _ => rfl) (by omega) hkl
      obtain ⟨ad, rfl, had, hcell⟩ := HAT.out wr hbw
      obtain ⟨x, hx⟩ : ∃ x, x = l[k] := ⟨_, rfl⟩
      rw [← hx] at hcell
      obtain ⟨k0, _, _⟩ := cells3 hcell
      have HX := Lib.hid hx
      have HPN := Lib.hid (npresent_snoc l hkl)
      have HSY := Lib.hid (nsome_yes l hkl)
      have HSO := Lib.hid (nsome_no l hkl)
      obtain ⟨xb, xn, xs⟩ := x
      dsimp only at k0
      clear hcell had hx
      go_wp2_with (at_builtin; refine wpList_push elemL rfl _ _ rfl w.heap.size _ _ _ (.bool (!xb)) wr w rfl rfl rfl rfl hown1 hbw hz (by omega) (by omega) ?_)
      intro u5 w5 hown5 hb5 hg5 _
      have hz5 := hb5.size
      have hown25 := own_otherW hown2 hown1 (by decide) hg5
      obtain ⟨ad5, had5, _, hcell5⟩ := HAT.out w5 hb5
      injection had5 with had5
      subst had5
      rw [← HX.out] at hcell5
      obtain ⟨j0, j1, j2⟩ := cells3 hcell5
      dsimp only at j0 j1 j2
      have hP2 : p ++ [!xb] = npresent (l.take (k + 1)) := by rw [HPN.out, HP.out, ← HX.out]
      have HP2 := Lib.hid hP2
      have hown6 : w5.ownsRow w.heap.size 4 1 u5 (p ++ [!xb]).length ((p ++ [!xb]).map Value.bool) := by
        rw [List.length_append, List.length_singleton, HPL.out, List.map_append, List.map_singleton]
        exact hown5
      have HO6 := Lib.hid hown6
      clear hown5 hown6 hP2 hcell5 hown1 hown2 hbw k0
      cases xb with
      | true =>
        have HS2 := Lib.hid (show s = nsome (l.take (k + 1)) by rw [HSO.out (by rw [← HX.out]), HS.out])
        have HREL := Lib.hid (show NSplitRel l w u5 _ (.int .i64 ((k + 1 : Nat) : Int)) w5 from ⟨k + 1, _, s, hkl, rfl, HP2.out, HS2.out, HO6.out, by rw [← HSN.out]; exact hown25, hb5⟩)
        go_wp2
        go_roundw
        case rel => exact HREL.out
        case measure => simp [intOf]; omega
      | false =>
        have HS2 := Lib.hid (show s ++ [⟨false, xn, xs⟩] = nsome (l.take (k + 1)) by rw [HSY.out (by rw [← HX.out]), HS.out, ← HX.out])
        go_wp2_with (at_builtin; refine wpList_pushW elemW rfl _ _ rfl w.heap.size _ _ _ (kcells ⟨false, xn, xs⟩) w5 w rfl rfl rfl rfl (kcells_one _) hown25 hb5 hz5 (by omega) (by omega) ?_)
        intro v7 w7 hown7 hb7 hg7 _
        have hown67 := own_otherW HO6.out hown25 (by decide) hg7
        have HREL := Lib.hid (show NSplitRel l w u5 v7 (.int .i64 ((k + 1 : Nat) : Int)) w7 from ⟨k + 1, _, _, hkl, rfl, HP2.out, HS2.out, hown67, by rw [List.length_append, List.length_singleton, ← HSN.out, flat_snoc]; exact hown7, hb7⟩)
        clear hown7 hb7 hg7 hown67
        go_wp2
        go_roundw
        case rel => exact HREL.out
        case measure => simp [intOf]; omega
    · obtain rfl : k = n := by omega
      have hlti : ¬ (k : Int) < (k : Int) := by omega
      have HT := Lib.hid (show l.take k = l from List.take_of_length_le (by have := HN.out; omega))
      have HI1 := Lib.hid (isV_own (f := Value.bool) hown1)
      have HI2 := Lib.hid (isR_own (m := 3) (fun _ => rfl) (by omega) hown2)
      have HB := Lib.hid hbw
      clear hown1 hown2 hbw
      go_wp2
      go_ret2
      refine ⟨_, _, rfl, ?_, ?_, HB.out⟩
      · have h := HI1.out
        rw [HP.out, HT.out] at h
        exact h
      · have h := HI2.out
        rw [HS.out, HT.out] at h
        exact h
def JoinRel (p : List Bool) (s : List CV) (w : World) (v at_ i : Value) (wr : World) : Prop :=
  ∃ (k a : Nat) (acc : List CV), k ≤ p.length ∧ i = .int .i64 (k : Int) ∧ at_ = .int .i64 (a : Int) ∧ a ≤ k ∧ acc.length = k ∧ njoin p s = (njoin (p.drop k) (s.drop a)).map (acc ++ ·) ∧ a ≤ s.length ∧
    wr.ownsRow w.heap.size 42 3 v k (acc.flatMap kcells) ∧ Below w.heap.size w wr
set_option maxHeartbeats 2000000 in
set_option maxRecDepth 100000 in
theorem rjoin13_any (p : List Bool) (s : List CV) (u v : Value) (w : World) (hu : IsV Value.bool p u w) (hv : IsR kcells s v w) (hb : p.length ≤ 1000000) (hb' : s.length ≤ 1000000) :
    Calls Try.prog 12 #[u, v] w (RetRE w (njoinE p s)) := by
  obtain ⟨B, n, c, rfl⟩ := hu.shape
  obtain ⟨A, m, d, rfl⟩ := hv.shape
  have HN := Lib.hid hu.parts.1
  have HM := Lib.hid hv.parts.1
  have HU := Lib.hid hu
  have HV := Lib.hid hv
  have hn6 : n ≤ 1000000 := by have := HN.out; omega
  have hm6 : m ≤ 1000000 := by have := HM.out; omega
  have hst : JoinRel p s w (.slice (some ⟨w.heap.size, 0, none⟩) 0 0) (.int .i64 0) (.int .i64 0) (w.alloc (.cells #[] 42)) :=
    ⟨0, 0, [], Nat.zero_le _, rfl, rfl, Nat.le_refl _, rfl, by cases h : njoin p s <;> simp [h], Nat.zero_le _, ownW_made w 42 3, (Below.refl _ _).alloc (Nat.le_refl _) _⟩
  clear hu hv hb hb'
  go_enter Try.func12, Try.ntmps12
  go_wp2
  go_loopw [6, 7, 8] (JoinRel p s w) (fun _ _ i _ => n - (intOf i).toNat)
  case atStart => exact hst
  case round =>
    obtain ⟨k, a, acc, hk, rfl, rfl, hak, hal, hj, has, hown, hbw⟩ := hrel
    have ham : a ≤ m := by have := HM.out; omega
    clear has
    clear hst
    have hkn : k ≤ n := by have := HN.out; omega
    have hz := hbw.size
    have HJ := Lib.hid hj
    have HAL := Lib.hid hal
    clear hj hal hk
    by_cases hlt : k < n
    · have hkl : k < p.length := by have := HN.out; omega
      have hlti : (k : Int) < (n : Int) := by omega
      obtain ⟨bd, rfl, _, hcb⟩ := (HU.out.below hbw).at hkl
      obtain ⟨x, hx⟩ : ∃ x, x = p[k] := ⟨_, rfl⟩
      rw [← hx] at hcb
      have HX := Lib.hid hx
      clear hx
      cases x with
      | false =>
        have HJ2 := Lib.hid (show njoin p s = _ from HJ.out.trans (njoin_nul hkl HX.out.symm acc))
        go_wp2_with (at_builtin; refine wpList_pushW elemW rfl _ _ rfl w.heap.size _ _ _ (kcells nul) wr w rfl rfl rfl rfl (kcells_one _) hown hbw hz (by omega) (by omega) ?_)
        intro v7 w7 hown7 hb7 _ _
        have HREL := Lib.hid (show JoinRel p s w v7 (.int .i64 (a : Int)) (.int .i64 ((k + 1 : Nat) : Int)) w7 from ⟨k + 1, a, acc ++ [nul], hkl, rfl, rfl, by omega, by rw [List.length_append, HAL.out]; rfl, HJ2.out, by have := HM.out; omega, by rw [flat_snoc]; exact hown7, hb7⟩)
        clear hown7 hb7 hown hbw
        go_wp2
        go_roundw
        case rel => exact HREL.out
        case measure => simp [intOf]; omega
      | true =>
        by_cases ha : a < m
        · have hal2 : a < s.length := by have := HM.out; omega
          have g1 : decide (m ≤ a) = false := decide_eq_false (by omega)
          have g2 : decide ((m : Int) ≤ (a : Int)) = false := decide_eq_false (by omega)
          have hai : (a : Int) < (m : Int) := by omega
          obtain ⟨ad, rfl, _, hcell⟩ := (HV.out.below hbw).at (m := 3) (fun _ => rfl) (by omega) hal2
          obtain ⟨y, hy⟩ : ∃ y, y = s[a] := ⟨_, rfl⟩
          rw [← hy] at hcell
          obtain ⟨j0, j1, j2⟩ := cells3 hcell
          have HY := Lib.hid hy
          obtain ⟨yb, yn, ys⟩ := y
          dsimp only at j0 j1 j2
          clear hcell hy
          cases yb with
          | true =>
            have hE := Lib.hid (njoinE_no (p := p) (s := s) (by rw [HJ.out, njoin_stop hkl HX.out.symm (fun h => by rw [← HY.out])]; rfl))
            go_wp2
            go_ret2
            rw [hE.out]
            exact RetRE.nil _ hbw
          | false =>
            have HJ2 := Lib.hid (show njoin p s = _ from HJ.out.trans (njoin_next hkl HX.out.symm hal2 (by rw [← HY.out]) acc))
            go_wp2_with (at_builtin; refine wpList_pushW elemW rfl _ _ rfl w.heap.size _ _ _ (kcells ⟨false, yn, ys⟩) wr w rfl rfl rfl rfl (kcells_one _) hown hbw hz (by omega) (by omega) ?_)
            intro v7 w7 hown7 hb7 _ _
            have HREL := Lib.hid (show JoinRel p s w v7 (.int .i64 ((a + 1 : Nat) : Int)) (.int .i64 ((k + 1 : Nat) : Int)) w7 from ⟨k + 1, a + 1, acc ++ [⟨false, yn, ys⟩], hkl, rfl, rfl, by omega, by rw [List.length_append, HAL.out]; rfl, by rw [HY.out]; exact HJ2.out, hal2, by rw [flat_snoc]; exact hown7, hb7⟩)
            clear hown7 hb7 hown hbw
            go_wp2
            go_roundw
            case rel => exact HREL.out
            case measure => simp [intOf]; omega
        · have g1 : decide (m ≤ a) = true := decide_eq_true (by omega)
          have g2 : decide ((m : Int) ≤ (a : Int)) = true := decide_eq_true (by omega)
          have hE := Lib.hid (njoinE_no (p := p) (s := s) (by rw [HJ.out, njoin_stop hkl HX.out.symm (fun h => absurd h (by have := HM.out; omega))]; rfl))
          go_wp2
          go_ret2
          rw [hE.out]
          exact RetRE.nil _ hbw
    · obtain rfl : k = n := by omega
      have hlti : ¬ (k : Int) < (k : Int) := by omega
      have hend := HJ.out
      rw [njoin_end (by have := HN.out; omega)] at hend
      by_cases ha : a = m
      · have hE := Lib.hid (njoinE_yes (p := p) (s := s) (l := acc) (by rw [hend, if_neg (by have := HM.out; omega)]; simp))
        have g1 : ((a : Int) != (m : Int)) = false := by rw [ha]; simp
        have HI := Lib.hid (isR_own (m := 3) (fun _ => rfl) (by omega) hown)
        clear hend ha hown
        go_wp2
        go_ret2
        rw [hE.out]
        exact ⟨_, rfl, HI.out, hbw⟩
      · have hE := Lib.hid (njoinE_no (p := p) (s := s) (by
          rw [hend]
          by_cases h2 : a < s.length
          · rw [if_pos h2]; rfl
          · exact absurd (show a = m by have := HM.out; omega) ha))
        have g1 : ((a : Int) != (m : Int)) = true := by simpa using fun h => ha (by omega)
        clear hend ha hown
        go_wp2
        go_ret2
        rw [hE.out]
        exact RetRE.nil _ hbw
end Go.Proofs.Ytffglnccpbbclaa
