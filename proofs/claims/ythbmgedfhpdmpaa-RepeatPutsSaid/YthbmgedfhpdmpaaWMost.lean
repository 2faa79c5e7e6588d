
/- Contracts of widths.Bits and Most, and of the reference's. -/

import Derived.Test.YthbmgedfhpdmpaaWLeaf

namespace Go.Proofs.Ythbmgedfhpdmpaa

open Go.RowKit

theorem bits_any (x : Nat) (w : World) (h : x < 2 ^ 64) :
    Calls Try.prog 23 #[.int .u64 (x : Int)] w fun e w' => e = .returned (.int .i64 (wbits x : Int)) ∧ w = w' := by
  have hc := Try.bits_Len64 (x : Int)
  rw [Int.toNat_natCast] at hc
  have HC := Lib.hid hc
  clear hc
  have H := Lib.hid h
  clear h
  go_enter Try.func23, Try.ntmps23
  go_wp2_with (go_at_call 24; refine (HC.out _ (by omega) (by have := H.out; omega)).mono ?_; rintro e w' ⟨rfl, rfl⟩)
  go_ret
  exact ⟨rfl, rfl⟩
def RBitsRel (x : Nat) (v n : Value) : Prop := ∃ y m : Nat, v = .int .u64 y ∧ n = .int .i64 m ∧ y ≤ x ∧ m + wbits y = wbits x
theorem rbits_any (x : Nat) (w : World) (h : x < 2 ^ 64) :
    Calls Try.prog 15 #[.int .u64 (x : Int)] w fun e w' => e = .returned (.int .i64 (wbits x : Int)) ∧ w = w' := by
  have H64 := Lib.hid (wbits_64 h)
  have H := Lib.hid h
  clear h
  go_enter Try.func15, Try.ntmps15
  go_wp2
  go_loop [0, 3] (RBitsRel x) (fun v _ => (intOf v).toNat)
  case atStart => exact ⟨x, 0, rfl, rfl, Nat.le_refl _, by simp⟩
  case round =>
    obtain ⟨y, m, rfl, rfl, hy, he⟩ := hrel
    have HE := Lib.hid he
    clear he
    have hm : m ≤ 64 := by have := HE.out; have := H64.out; omega
    by_cases h0 : 0 < y
    · have HW : Hid (IntKind.u64.wrap ((y : Int) / 2) = ((y / 2 : Nat) : Int)) := Lib.hid (by have := H.out; rw [IntKind.wrap_u64]; omega)
      go_wp2
      go_round
      case rel =>
        refine ⟨y / 2, m + 1, by rw [HW.out], by go_num, by omega, ?_⟩
        have := wbits_half (x := y) (by omega) (by have := H.out; omega)
        have := HE.out
        omega
      case measure => simp only [intOf, HW.out, Int.toNat_natCast]; omega
    · obtain rfl : y = 0 := by omega
      go_wp2
      go_ret
      exact ⟨ret_int (by have := HE.out; rw [wbits_zero] at this; omega), rfl⟩

def MostRel (l : List Nat) (a i : Value) : Prop := ∃ k : Nat, k ≤ l.length ∧ i = .int .i64 k ∧ a = .int .u64 (wall (l.take k) : Nat)
def RMostRel (l : List Nat) (a i : Value) : Prop := ∃ k : Nat, k ≤ l.length ∧ i = .int .i64 k ∧ a = .int .i64 (wmost (l.take k) : Nat)
end Go.Proofs.Ythbmgedfhpdmpaa
