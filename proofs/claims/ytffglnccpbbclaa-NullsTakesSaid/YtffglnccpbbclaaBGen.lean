
/- Bits of bytes in a walk: what layers 3 and 6 share. Over any program. -/

import Derived.Test.YtffglnccpbbclaaCom

import Derived.Test.YtffglnccpbbclaaBPlain

namespace Go.Proofs.Ytffglnccpbbclaa

open Go.RowKit

theorem shr128 (e : Nat) (h : e < 8) : (128 : Int) / 2 ^ e = ((2 ^ (7 - e) : Nat) : Int) := by
  have : ∀ e : Fin 8, (128 : Int) / 2 ^ e.val = ((2 ^ (7 - e.val) : Nat) : Int) := by decide
  exact this ⟨e, h⟩
theorem row_set {w : World} {g : Nat} {t : TypeId} {out : List UInt8} (h : Row w g t (out.map bv)) (q C : Nat) (hC : C < 256) : Row (w.setCell ⟨g, q, none⟩ (.int .u8 (C : Int))) g t ((out.set q (UInt8.ofNat C)).map bv) := by
  have h1 := h.set_ q (.int .u8 (C : Int))
  have h2 : Value.int .u8 (C : Int) = bv (UInt8.ofNat C) := by
    unfold bv
    congr 1
    simp only [UInt8.toNat_ofNat', Nat.reducePow]
    omega
  rw [List.map_set, ← h2]
  exact h1
theorem step_zero (V m T : Nat) (h : T + 1 ≤ 8 * m) : V * 2 ^ (8 * m - T) = (V * 2 ^ 1 + 0) * 2 ^ (8 * m - (T + 1)) := by
  rw [Nat.add_zero, Nat.mul_assoc, ← Nat.pow_add]
  congr 2
  omega
theorem btake_at {l : List UInt8} {m at_ n q r d : Nat} (hq : q = at_ / 8) (hr : r = 8 - at_ % 8) (hd : d = r - n) (hm : l.length = m) (hn : n ≤ r) (hn0 : 0 < n) (hat : at_ + n ≤ 8 * m) :
    ∃ h : q < l.length, l[q].toNat / 2 ^ d % 2 ^ n = btake (bval l) (8 * m) at_ n := by
  subst hq hr hd
  exact btake_byte hm hn hn0 hat
/-- Bits that don't meet are added. -/
theorem or_word (n Y P : Nat) (h0 : Y % 2 ^ n = 0) (h1 : P < 2 ^ n) (h2 : Y + P < 2 ^ 64) : bits .or .u64 (Y : Int) (P : Int) = ((Y + P : Nat) : Int) := by
  rw [u64_or _ _ (by omega) (by omega) (by omega) (by omega), Int.toNat_natCast, Int.toNat_natCast, nat_join n Y P h0 h1]
/-- The lowest n bits of a number, as the program takes them. -/
theorem and_low (x j n L : Nat) (hx : x < 2 ^ 64) (hn : n ≤ 8) (hL : L = 2 ^ n - 1) : bits .and .u64 ((x : Int) / 2 ^ j) (L : Int) = ((x / 2 ^ j % 2 ^ n : Nat) : Int) := by
  have h1 : (x : Int) / 2 ^ j = ((x / 2 ^ j : Nat) : Int) := by simp
  have h2 : 2 ^ n ≤ 2 ^ 8 := Nat.pow_le_pow_right (by omega) hn
  have h3 := Nat.div_le_self x (2 ^ j)
  rw [h1]
  generalize x / 2 ^ j = y at *
  rw [u64_and _ _ (by omega) (by omega) (by omega) (by omega), Int.toNat_natCast, Int.toNat_natCast, hL, Nat.and_two_pow_sub_one_eq_mod]
end Go.Proofs.Ytffglnccpbbclaa
