
/- The contract of what stands at the head of the statements of layer 8. -/

import Derived.Test.YtiapopaggpnceaaDoorDIs

namespace Go.Proofs.YtiapopaggpnceaaDoor

open Go.RowKit

theorem ds1 : dputE [23713, 43806, 57005, 48879] false = ([94, 3, 92, 161, 171, 30, 222, 173, 190, 239], 0) := by decide +kernel
theorem isV_lit {w : World} (t : TypeId) : IsV iv [23713, 43806, 57005, 48879] (.slice (some ⟨w.heap.size, 0, none⟩) 4 4) (w.alloc (.cells #[.int .i64 23713, .int .i64 43806, .int .i64 57005, .int .i64 48879] t)) := isV_new iv w t _ 4 rfl (by omega)
set_option maxHeartbeats 1000000 in
set_option maxRecDepth 100000 in
theorem shown_any (w : World) (ht : WTab w) : Calls Tryd.prog 8 #[] w fun e w' => e = .returned (.bool true) ∧ Below w.heap.size w w' := by
  have hb0 : Below w.heap.size w (w.alloc (.cells #[.int .i64 23713, .int .i64 43806, .int .i64 57005, .int .i64 48879] 3)) := (Below.refl _ _).alloc (Nat.le_refl _) _
  have H1 := Lib.hid (dput_any _ _ false _ (ht.below hb0 ht.lt) (isV_lit (w := w) 3) (by intro x hx; simp at hx; unfold inInt; omega) (by simp))
  have HB0 := Lib.hid hb0
  rw [ds1] at H1
  clear ht hb0
  go_enter Tryd.func8, Tryd.ntmps8
  go_wp2_with fail
  refine H1.out.mono ?_
  rintro e w1 ⟨v1, rfl, hv1, hb1⟩
  have hc1 := textB hv1
  have HB1 := Lib.hid (below_then HB0.out hb1)
  clear hv1 hb1
  go_wp2
  go_ret
  exact ⟨rfl, HB1.out⟩
theorem few_any (A : Option Addr) (n c : Nat) (w : World) (hnc : n ≤ c) (_hc : (c : Int) ≤ 9223372036854775807) :
    Calls Tryd.prog 13 #[.slice A n c] w fun e w' => e = .returned (.slice A (min n 600) c) ∧ w = w' := by
  by_cases h : n ≤ 600
  · have h1 : ¬ (600 : Int) < (n : Int) := by omega
    rw [Nat.min_eq_left h]
    go_enter Tryd.func13, Tryd.ntmps13
    go_wp2
    go_ret
    exact ⟨rfl, rfl⟩
  · have h1 : (600 : Int) < (n : Int) := by omega
    rw [Nat.min_eq_right (by omega : 600 ≤ n)]
    go_enter Tryd.func13, Tryd.ntmps13
    go_wp2
    go_ret
    exact ⟨rfl, rfl⟩
theorem few_is {l : List Int} {v : Value} {w : World} (h : IsV iv l v w) : Calls Tryd.prog 13 #[v] w fun e w' => (∃ u, e = .returned u ∧ IsV iv (l.take 600) u w') ∧ w = w' := by
  obtain ⟨A, n, c, rfl⟩ := h.shape
  obtain ⟨h1, h2, h3, h4, h5⟩ := h.parts
  refine (few_any A n c w h3 (by unfold maxLen at h4; omega)).mono ?_
  rintro e w' ⟨rfl, rfl⟩
  refine ⟨⟨_, rfl, ?_⟩, rfl⟩
  have h6 := h.take (k := min n 600) (by omega)
  rwa [show l.take (min n 600) = l.take 600 by
    by_cases h7 : n ≤ 600
    · rw [Nat.min_eq_left h7, List.take_of_length_le (by omega), List.take_of_length_le (by omega)]
    · rw [Nat.min_eq_right (by omega)]] at h6
theorem mem_take {α : Type} {p : α → Prop} {l : List α} (h : ∀ x ∈ l, p x) (n : Nat) : ∀ x ∈ l.take n, p x := fun x hx => h x (List.mem_of_mem_take hx)
end Go.Proofs.YtiapopaggpnceaaDoor
