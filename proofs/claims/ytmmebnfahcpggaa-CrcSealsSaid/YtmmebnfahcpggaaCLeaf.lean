/- Contracts of the small functions of layer 4, and of the reference's: entry, Entry, few. -/
import Derived.Test.YtmmebnfahcpggaaArr
import Derived.Test.YtmmebnfahcpggaaCPlain
namespace Go.Proofs.Ytmmebnfahcpggaa
open Go.RowKit

theorem csh_lt {r : Nat} (h : r < 4294967296) : csh r < 4294967296 := by
  unfold csh
  refine Nat.xor_lt_two_pow (n := 32) (by omega) ?_
  split <;> omega
/-- Several shifts. -/
def cshn : Nat → Nat → Nat
  | 0, r => r
  | k + 1, r => csh (cshn k r)
theorem cshn_lt (k : Nat) {r : Nat} (h : r < 4294967296) : cshn k r < 4294967296 := by
  induction k with
  | zero => exact h
  | succ k ih => exact csh_lt ih
theorem cshn_8 (r : Nat) : cshn 8 r = centry r := rfl
theorem csh_odd {r : Nat} (h : r % 2 = 1) : csh r = r / 2 ^^^ 2197175160 := by unfold csh; rw [if_pos h]
theorem csh_even {r : Nat} (h : r % 2 = 0) : csh r = r / 2 := by unfold csh; rw [if_neg (by omega), Nat.xor_zero]

theorem and1_32 {y : Nat} (h : y < 4294967296) {b : Nat} (h0 : y % 2 = b) : bits .and .u32 (y : Int) 1 = (b : Int) := by
  have := u32_and_nat y 1 h (by omega)
  rw [nat_mask1, h0] at this
  exact this
theorem xor_32 {a b : Nat} (ha : a < 4294967296) (hb : b < 4294967296) : Value.int .u32 (bits .xor .u32 (a : Int) (b : Int)) = .int .u32 ((a ^^^ b : Nat) : Int) := by rw [u32_xor_nat a b ha hb]
def EntRel (x : Nat) (v i : Value) (wr w : World) : Prop := ∃ k y : Nat, k ≤ 8 ∧ y = cshn k x ∧ v = .int .u32 (y : Int) ∧ i = .int .i64 (k : Int) ∧ wr = w
theorem entry_any (x : Nat) (w : World) (hx : x < 4294967296) : Calls Try.prog 17 #[.int .u32 (x : Int)] w fun e w' => e = .returned (.int .u32 (centry x : Int)) ∧ w = w' := by
  have HX := Lib.hid hx
  clear hx
  go_enter Try.func17, Try.ntmps17
  go_wp2
  go_loopw [0, 4] (fun v i wr => EntRel x v i wr w) (fun _ i _ => 8 - (intOf i).toNat)
  case atStart => exact ⟨0, x, by omega, rfl, rfl, rfl, rfl⟩
  case round =>
    obtain ⟨k, y, hk, hy, rfl, rfl, rfl⟩ := hrel
    have hy32 : y < 4294967296 := by rw [hy]; exact cshn_lt _ HX.out
    have HY := Lib.hid hy
    clear hy
    by_cases hlt : k < 8
    · rcases (show y % 2 = 0 ∨ y % 2 = 1 by omega) with h0 | h0
      · have h1 := and1_32 hy32 h0
        have HS := Lib.hid (csh_even h0)
        clear h0
        go_wp2
        go_roundw
        case rel => exact ⟨k + 1, y / 2, by omega, by rw [cshn, ← HY.out, HS.out], by simp, by go_num, rfl⟩
        case measure => simp [intOf]; omega
      · have h1 := and1_32 hy32 h0
        have HS := Lib.hid (csh_odd h0)
        clear h0
        go_wp2
        go_roundw
        case rel => exact ⟨k + 1, y / 2 ^^^ 2197175160, by omega, by rw [cshn, ← HY.out, HS.out], xor_32 (a := y / 2) (b := 2197175160) (by omega) (by omega), by go_num, rfl⟩
        case measure => simp [intOf]; omega
    · obtain rfl : k = 8 := by omega
      go_wp2
      go_ret
      exact ⟨ret_int (by rw [HY.out, cshn_8]), rfl⟩
theorem rentry_any (x : Nat) (w : World) (hx : x < 256) : Calls Try.prog 12 #[.int .i64 (x : Int)] w fun e w' => e = .returned (.int .u32 (centry x : Int)) ∧ w = w' := by
  go_enter Try.func12, Try.ntmps12
  go_wp2
  go_loopw [3, 4] (fun v i wr => EntRel x v i wr w) (fun _ i _ => 8 - (intOf i).toNat)
  case atStart => exact ⟨0, x, by omega, rfl, by first | rfl | go_num, rfl, rfl⟩
  case round =>
    obtain ⟨k, y, hk, hy, rfl, rfl, rfl⟩ := hrel
    have hy32 : y < 4294967296 := by rw [hy]; exact cshn_lt _ (by omega)
    have HY := Lib.hid hy
    clear hy
    by_cases hlt : k < 8
    · rcases (show y % 2 = 0 ∨ y % 2 = 1 by omega) with h0 | h0
      · have h1 : (y : Int) % 2 = 0 := by omega
        have HS := Lib.hid (csh_even h0)
        clear h0
        go_wp2
        go_roundw
        case rel => exact ⟨k + 1, y / 2, by omega, by rw [cshn, ← HY.out, HS.out], by simp, by go_num, rfl⟩
        case measure => simp [intOf]; omega
      · have h1 : (y : Int) % 2 = 1 := by omega
        have HS := Lib.hid (csh_odd h0)
        clear h0
        go_wp2
        go_roundw
        case rel => exact ⟨k + 1, y / 2 ^^^ 2197175160, by omega, by rw [cshn, ← HY.out, HS.out], xor_32 (a := y / 2) (b := 2197175160) (by omega) (by omega), by go_num, rfl⟩
        case measure => simp [intOf]; omega
    · obtain rfl : k = 8 := by omega
      go_wp2
      go_ret
      exact ⟨ret_int (by rw [HY.out, cshn_8]), rfl⟩
theorem few_any (A : Option Addr) (n c : Nat) (w : World) (hnc : n ≤ c) (hc : (c : Int) ≤ 9223372036854775807) :
    Calls Try.prog 8 #[.slice A n c] w fun e w' => e = .returned (.slice A (min n 400) c) ∧ w = w' := by
  by_cases h : n ≤ 400
  · have h1 : ¬ (400 : Int) < (n : Int) := by omega
    rw [Nat.min_eq_left h]
    go_enter Try.func8, Try.ntmps8
    go_wp2
    go_ret
    exact ⟨rfl, rfl⟩
  · have h1 : (400 : Int) < (n : Int) := by omega
    rw [Nat.min_eq_right (by omega : 400 ≤ n)]
    go_enter Try.func8, Try.ntmps8
    go_wp2
    go_ret
    exact ⟨rfl, rfl⟩
/-- Whatever bytes come in: few answers the first 400. -/
theorem few_is {l : List UInt8} {v : Value} {w : World} (h : IsB l v w) : Calls Try.prog 8 #[v] w fun e w' => (∃ u, e = .returned u ∧ IsB (l.take 400) u w') ∧ w = w' := by
  obtain ⟨A, c, rfl, h2, h3, h4, h5⟩ := h
  refine (few_any A _ c w h3 (by unfold maxLen at h4; omega)).mono ?_
  rintro e w' ⟨rfl, rfl⟩
  refine ⟨⟨_, rfl, A, c, ?_, fun hA => ?_, ?_, h4, ?_⟩, rfl⟩
  · rw [List.length_take, Nat.min_comm]
  · have := h2 hA; rw [List.length_take]; omega
  · rw [List.length_take]; omega
  · rw [List.map_take]; exact h5.take 400

theorem tabT : ArrT Try.prog 27 25 256 (.int .u32 0) := ⟨Try.underlying27, by kernel_rfl⟩
theorem fourT : ArrT Try.prog 42 5 4 (bv 0) := ⟨Try.underlying42, by kernel_rfl⟩
end Go.Proofs.Ytmmebnfahcpggaa
