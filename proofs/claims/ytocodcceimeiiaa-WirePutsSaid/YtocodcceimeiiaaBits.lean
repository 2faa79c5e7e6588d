
/- Bit operations of the model on numbers in their range, as plain arithmetic. -/

import Derived.Laws.BitsAllLaws

import Derived.Laws.BitsLemmas

import Derived.WalkKit

namespace Go.Proofs.Ytocodcceimeiiaa

theorem u64_not (x : Int) (h0 : 0 ≤ x) (h1 : x < 18446744073709551616) : bits .xor .u64 IntKind.u64.max x = 18446744073709551615 - x := by
  obtain ⟨n, rfl⟩ := Int.eq_ofNat_of_zero_le h0
  have hm : IntKind.u64.max = ((18446744073709551615 : Nat) : Int) := by decide
  rw [hm, u64_xor_nat _ _ (by omega) (by omega)]
  have h : 18446744073709551615 ^^^ n = 18446744073709551615 - n := by
    have h3 : (BitVec.ofNat 64 n) ^^^ BitVec.allOnes 64 = ~~~ (BitVec.ofNat 64 n) := BitVec.xor_allOnes
    have h4 := congrArg BitVec.toNat h3
    rw [BitVec.toNat_xor, BitVec.toNat_not, BitVec.toNat_allOnes, BitVec.toNat_ofNat, Nat.mod_eq_of_lt (by omega), Nat.xor_comm] at h4
    simpa using h4
  rw [h]
  omega
theorem i64_not (x : Int) (h0 : 0 ≤ x) (h1 : x < 9223372036854775808) : bits .xor .i64 (-1) x = -x - 1 := by
  obtain ⟨n, rfl⟩ := Int.eq_ofNat_of_zero_le h0
  show IntKind.i64.wrap ((BitVec.ofInt 64 (-1) ^^^ BitVec.ofInt 64 (n : Int)).toNat : Int) = _
  have h3 : BitVec.ofInt 64 (-1) ^^^ BitVec.ofInt 64 (n : Int) = ~~~ (BitVec.ofNat 64 n) := by
    rw [BitVec.ofInt_natCast, show BitVec.ofInt 64 (-1) = BitVec.allOnes 64 by decide, BitVec.xor_comm, BitVec.xor_allOnes]
  rw [h3, BitVec.toNat_not, BitVec.toNat_ofNat, Nat.mod_eq_of_lt (by omega), IntKind.wrap_i64]
  omega
theorem u64_and1 (x : Int) (h0 : 0 ≤ x) (h1 : x < 18446744073709551616) : bits .and .u64 x 1 = x % 2 := by
  rw [u64_and x 1 h0 h1 (by omega) (by omega), show (1 : Int).toNat = 1 from rfl, nat_mask1]
  omega
theorem u64_or1 (x : Int) (h0 : 0 ≤ x) (h1 : x < 18446744073709551616) : bits .or .u64 x 1 = ((x.toNat ||| 1 : Nat) : Int) := by
  rw [u64_or x 1 h0 h1 (by omega) (by omega)]
  rfl
theorem u8_and127 (x : Int) (h0 : 0 ≤ x) (h1 : x < 256) : bits .and .u8 x 127 = x % 128 := by
  rw [u8_and x 127 h0 h1 (by omega) (by omega), show (127 : Int).toNat = 127 from rfl, nat_mask7]
  omega
theorem u8_and128 (x : Int) (h0 : 0 ≤ x) (h1 : x < 256) : bits .and .u8 x 128 = x / 128 * 128 := by
  rw [u8_and x 128 h0 h1 (by omega) (by omega), show (128 : Int).toNat = 2 ^ 7 from rfl, nat_bit]
  omega
theorem u8_or128 (x : Int) (h0 : 0 ≤ x) (h1 : x < 256) : bits .or .u8 x 128 = x % 128 + 128 := by
  rw [u8_or x 128 h0 h1 (by omega) (by omega), show (128 : Int).toNat = 128 from rfl]
  have h : ∀ n : Fin 256, n.val ||| 128 = n.val % 128 + 128 := by decide +kernel
  have := h ⟨x.toNat, by omega⟩
  simp only at this
  omega
/-- Bits that don't meet are added. -/
theorem u64_join (k a b : Nat) (ha : a < 2 ^ k) (hb : b * 2 ^ k < 18446744073709551616) (hk : a < 18446744073709551616) : bits .or .u64 (a : Int) ((b * 2 ^ k : Nat) : Int) = ((a + b * 2 ^ k : Nat) : Int) := by
  rw [u64_or_nat a (b * 2 ^ k) hk hb, Nat.or_comm, nat_join k (b * 2 ^ k) a (by simp) ha, Nat.add_comm]
theorem i64_and31_mod (n : Int) : bits .and .i64 n 31 = n % 32 := by
  have h31 : (BitVec.ofInt 64 31).toNat = 2 ^ 5 - 1 := by decide
  have key : (BitVec.ofInt 64 n &&& BitVec.ofInt 64 31).toNat = (n % ((2 ^ 64 : Nat) : Int)).toNat % 2 ^ 5 := by
    rw [BitVec.toNat_and, BitVec.toNat_ofInt, h31, Nat.and_two_pow_sub_one_eq_mod]
  show IntKind.i64.wrap ((BitVec.ofInt 64 n &&& BitVec.ofInt 64 31).toNat : Nat) = n % 32
  rw [key, IntKind.wrap_i64]
  omega
theorem i64_and31 (n : Int) : ∃ x : Nat, x < 32 ∧ bits .and .i64 n 31 = (x : Int) := ⟨(n % 32).toNat, by omega, by rw [i64_and31_mod]; omega⟩
end Go.Proofs.Ytocodcceimeiiaa
