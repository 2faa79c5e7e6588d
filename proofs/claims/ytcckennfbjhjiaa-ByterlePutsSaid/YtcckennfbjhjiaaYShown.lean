
/- The contract of what stands at the head of the statements of layer 5. -/

import Derived.Test.YtcckennfbjhjiaaYIs

namespace Go.Proofs.Ytcckennfbjhjiaa

open Go.RowKit

theorem few_any (A : Option Addr) (n c N : Nat) (w : World) (hnc : n ≤ c) (_hc : (c : Int) ≤ 9223372036854775807) (hN : N ≤ 1000000) :
    Calls Try.prog 7 #[.slice A n c, .int .i64 (N : Int)] w fun e w' => e = .returned (.slice A (min n N) c) ∧ w = w' := by
  by_cases h : n ≤ N
  · have h1 : ¬ (N : Int) < (n : Int) := by omega
    rw [Nat.min_eq_left h]
    go_enter Try.func7, Try.ntmps7
    go_wp2
    go_ret
    exact ⟨rfl, rfl⟩
  · have h1 : (N : Int) < (n : Int) := by omega
    rw [Nat.min_eq_right (by omega : N ≤ n)]
    go_enter Try.func7, Try.ntmps7
    go_wp2
    go_ret
    exact ⟨rfl, rfl⟩
theorem few_is {l : List UInt8} {v : Value} {w : World} (N : Nat) (hN : N ≤ 1000000) (h : IsB l v w) : Calls Try.prog 7 #[v, .int .i64 (N : Int)] w fun e w' => (∃ u, e = .returned u ∧ IsB (l.take N) u w') ∧ w = w' := by
  obtain ⟨A, c, rfl, h2, h3, h4, h5⟩ := h
  refine (few_any A _ c N w h3 (by unfold maxLen at h4; omega) hN).mono ?_
  rintro e w' ⟨rfl, rfl⟩
  refine ⟨⟨_, rfl, A, c, ?_, fun hA => ?_, ?_, h4, ?_⟩, rfl⟩
  · rw [List.length_take, Nat.min_comm]
  · have := h2 hA; rw [List.length_take]; omega
  · rw [List.length_take]; omega
  · rw [List.map_take]; exact h5.take N
theorem ys1 : yputE [7, 7, 7, 7, 1, 2] = ([1, 7, 254, 1, 2], 0) := by decide +kernel
theorem ys2 : ytakeE [1, 7, 254, 1, 2] 6 = ([7, 7, 7, 7, 1, 2], [], 0) := by decide +kernel
theorem ys3 : ytakeE [1, 7, 254, 1, 2] 5 = ([], [], 2) := by decide +kernel
theorem put_six (W : World) : Calls Try.prog 8 #[.slice (some ⟨W.heap.size, 0, none⟩) 6 6] (W.alloc (.cells #[.int .u8 7, .int .u8 7, .int .u8 7, .int .u8 7, .int .u8 1, .int .u8 2] 5))
    fun e w' => ∃ v, e = .returned (.tuple #[v, .int .i64 0]) ∧ IsB [1, 7, 254, 1, 2] v w' ∧ Below W.heap.size W w' := by
  have hb : Below W.heap.size W (W.alloc (.cells #[.int .u8 7, .int .u8 7, .int .u8 7, .int .u8 7, .int .u8 1, .int .u8 2] 5)) := (Below.refl _ _).alloc (Nat.le_refl _) _
  have h := bput_any _ _ _ (isB_new W 5 [7, 7, 7, 7, 1, 2] 6 rfl (by omega)) (by simp)
  rw [ys1] at h
  refine h.mono ?_
  rintro e w' ⟨v, h1, h2, h3⟩
  exact ⟨v, h1, h2, below_then hb h3⟩
theorem take_six (v : Value) (W : World) (h : IsB [1, 7, 254, 1, 2] v W) : Calls Try.prog 10 #[v, .int .i64 6] W fun e w' => ∃ x A c, e = .returned (.tuple #[x, .slice A 0 c, .int .i64 0]) ∧ IsB [7, 7, 7, 7, 1, 2] x w' ∧ Below W.heap.size W w' := by
  have h := btake_any _ v 6 W h (by simp)
  rw [ys2] at h
  refine h.mono ?_
  rintro e w' ⟨x, y, h1, h2, ⟨A, c, rfl, _, _, _, _⟩, h4⟩
  exact ⟨x, A, c, h1, h2, h4⟩
theorem take_five (v : Value) (W : World) (h : IsB [1, 7, 254, 1, 2] v W) : Calls Try.prog 10 #[v, .int .i64 5] W fun e w' => ∃ x y, e = .returned (.tuple #[x, y, .int .i64 2]) ∧ Below W.heap.size W w' := by
  have h := btake_any _ v 5 W h (by simp)
  rw [ys3] at h
  exact h.mono fun e w' ⟨x, y, h1, _, _, h4⟩ => ⟨x, y, h1, h4⟩

set_option maxHeartbeats 1000000 in
set_option maxRecDepth 100000 in
theorem shown_any (w : World) : Calls Try.prog 6 #[] w fun e w' => e = .returned (.bool true) ∧ Below w.heap.size w w' := by
  go_enter Try.func6, Try.ntmps6
  go_wp2_with fail
  refine (put_six w).mono ?_
  rintro e w1 ⟨v1, rfl, hv1, hb1⟩
  have HV1 := Lib.hid hv1
  have HB1 := Lib.hid hb1
  clear hv1 hb1
  go_wp2_with fail
  refine (take_six v1 w1 HV1.out).mono ?_
  rintro e w2 ⟨x2, A2, c2, rfl, hx2, hb2⟩
  have HX2 := Lib.hid hx2
  have HV2 := Lib.hid (HV1.out.below hb2)
  have HB2 := Lib.hid (below_then HB1.out hb2)
  clear hx2 hb2
  go_wp2_with fail
  refine (take_five v1 w2 HV2.out).mono ?_
  rintro e w3 ⟨x3, y3, rfl, hb3⟩
  have hcv := textB (HV2.out.below hb3)
  have hcx := textB (HX2.out.below hb3)
  have HB3 := Lib.hid (below_then HB2.out hb3)
  clear hb3
  go_wp2
  go_ret
  exact ⟨rfl, HB3.out⟩
end Go.Proofs.Ytcckennfbjhjiaa
