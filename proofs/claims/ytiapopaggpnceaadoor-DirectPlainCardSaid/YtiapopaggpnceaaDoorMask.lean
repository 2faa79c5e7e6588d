
/- x & (2^w - 1) of a number with a sign. -/

import Derived.Test.YtiapopaggpnceaaDoorBits

namespace Go.Proofs.YtiapopaggpnceaaDoor

theorem i64_mask (n : Int) (w : Nat) (hw : w ≤ 62) : bits .and .i64 n (((2 ^ w - 1 : Nat) : Nat) : Int) = n % ((2 ^ w : Nat) : Int) := by
  have hW : 2 ^ w ≤ 2 ^ 62 := Nat.pow_le_pow_right (by omega) hw
  have hp : 0 < 2 ^ w := Nat.two_pow_pos w
  have h31 : (BitVec.ofInt 64 ((2 ^ w - 1 : Nat) : Int)).toNat = 2 ^ w - 1 := by
    rw [BitVec.ofInt_natCast, BitVec.toNat_ofNat]
    exact Nat.mod_eq_of_lt (by omega)
  have key : (BitVec.ofInt 64 n &&& BitVec.ofInt 64 ((2 ^ w - 1 : Nat) : Int)).toNat = (n % ((2 ^ 64 : Nat) : Int)).toNat % 2 ^ w := by
    rw [BitVec.toNat_and, BitVec.toNat_ofInt, h31, Nat.and_two_pow_sub_one_eq_mod]
  have hdvd : ((2 ^ w : Nat) : Int) ∣ ((2 ^ 64 : Nat) : Int) := Int.natCast_dvd_natCast.2 (Nat.pow_dvd_pow 2 (by omega))
  have e1 : (((n % ((2 ^ 64 : Nat) : Int)).toNat % 2 ^ w : Nat) : Int) = n % ((2 ^ w : Nat) : Int) := by
    rw [Int.natCast_emod, Int.toNat_of_nonneg (Int.emod_nonneg _ (by decide)), Int.emod_emod_of_dvd _ hdvd]
  show IntKind.i64.wrap ((BitVec.ofInt 64 n &&& BitVec.ofInt 64 ((2 ^ w - 1 : Nat) : Int)).toNat : Nat) = _
  rw [key, e1, IntKind.wrap_i64]
  have h1 := Int.emod_nonneg n (show ((2 ^ w : Nat) : Int) ≠ 0 by omega)
  have h2 := Int.emod_lt_of_pos n (show (0 : Int) < ((2 ^ w : Nat) : Int) by omega)
  omega
end Go.Proofs.YtiapopaggpnceaaDoor
