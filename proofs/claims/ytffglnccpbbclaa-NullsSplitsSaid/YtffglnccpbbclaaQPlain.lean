
/- Truths as bits of bytes, and these as runs of bytes (layer 6), as plain mathematics. -/

import Derived.Test.YtffglnccpbbclaaBPlain

import Derived.Test.YtffglnccpbbclaaYPlain

namespace Go.Proofs.Ytffglnccpbbclaa

def qn (l : List Bool) : List Nat := l.map Bool.toNat
theorem qn_len (l : List Bool) : (qn l).length = l.length := by simp [qn]
theorem qn_lt (l : List Bool) : ∀ x ∈ qn l, x < 2 ^ 1 := by
  intro x hx
  obtain ⟨b, _, rfl⟩ := List.mem_map.1 hx
  cases b <;> simp
theorem qn_snoc (l : List Bool) {k : Nat} (h : k < l.length) : qn (l.take (k + 1)) = qn (l.take k) ++ [l[k].toNat] := by
  rw [List.take_succ_eq_append_getElem h, qn, qn, List.map_append]; rfl
/-- Eight truths in a byte. -/
def qpack (l : List Bool) : List UInt8 := bpack (qn l) 1
theorem qpack_len (l : List Bool) : (qpack l).length = (l.length + 7) / 8 := by rw [qpack, bpack_len, qn_len, bsize]; simp
/-- The first M truths of bytes. -/
def qbits (x : List UInt8) (M : Nat) : List Bool := (bnums (bval x) (8 * x.length) 1 M).map (· == 1)
theorem qbits_len (x : List UInt8) (M : Nat) : (qbits x M).length = M := by simp [qbits, bnums_len]
theorem qbits_succ (x : List UInt8) (M : Nat) : qbits x (M + 1) = qbits x M ++ [btake (bval x) (8 * x.length) M 1 == 1] := by
  rw [qbits, bnums_succ, List.map_append, Nat.one_mul]; rfl
theorem bool_back (l : List Bool) : (qn l).map (· == 1) = l := by
  rw [qn, List.map_map]
  conv => rhs; rw [← List.map_id l]
  exact List.map_congr_left fun b _ => by cases b <;> rfl
theorem qbits_qpack (l : List Bool) : qbits (qpack l) l.length = l := by
  have h := bnums_bpack (l := qn l) (w := 1) (qn_lt l)
  rw [qn_len] at h
  unfold qbits
  rw [show (qpack l).length = bsize l.length 1 by rw [qpack, bpack_len, qn_len], qpack, h, bool_back]
theorem qpack_spare (l : List Bool) : bval (qpack l) % 2 ^ (8 * (qpack l).length - l.length) = 0 := by
  have h := bpack_spare (l := qn l) (w := 1) (qn_lt l)
  rw [qn_len, Nat.one_mul] at h
  rw [show (qpack l).length = bsize l.length 1 by rw [qpack, bpack_len, qn_len]]
  exact h
/-- What Put answers. -/
def qputE (l : List Bool) : List UInt8 × Int := if l.length ≤ 4096 then (yput (qpack l), 0) else ([], 3)
/-- What Take answers. -/
def qtakeM (l : List UInt8) (M : Nat) : List Bool × List UInt8 × Int :=
  match ytake ((M + 7) / 8) l with
  | none => ([], [], 2)
  | some p => if bval p.1 % 2 ^ (8 * p.1.length - M) = 0 then (qbits p.1 M, p.2, 0) else ([], [], 2)
def qtakeE (l : List UInt8) (many : Int) : List Bool × List UInt8 × Int := if many < 0 ∨ 4096 < many then ([], [], 1) else qtakeM l many.toNat
theorem qtakeE_in {l : List UInt8} {M : Nat} (h : M ≤ 4096) : qtakeE l M = qtakeM l M := by unfold qtakeE; rw [if_neg (by omega), Int.toNat_natCast]
theorem qtakeE_arg {l : List UInt8} {many : Int} (h : many < 0 ∨ 4096 < many) : qtakeE l many = ([], [], 1) := by unfold qtakeE; rw [if_pos h]
theorem qtakeM_none {l : List UInt8} {M : Nat} (h : ytake ((M + 7) / 8) l = none) : qtakeM l M = ([], [], 2) := by unfold qtakeM; rw [h]
theorem qtakeM_yes {l x r : List UInt8} {M : Nat} (h : ytake ((M + 7) / 8) l = some (x, r)) (hs : bval x % 2 ^ (8 * x.length - M) = 0) : qtakeM l M = (qbits x M, r, 0) := by unfold qtakeM; rw [h]; simp only []; rw [if_pos hs]
theorem qtakeM_no {l x r : List UInt8} {M : Nat} (h : ytake ((M + 7) / 8) l = some (x, r)) (hs : bval x % 2 ^ (8 * x.length - M) ≠ 0) : qtakeM l M = ([], [], 2) := by unfold qtakeM; rw [h]; simp only []; rw [if_neg hs]
/-- P6.2. -/
theorem qtake_back (l : List Bool) (b : List UInt8) : qtakeM (yput (qpack l) ++ b) l.length = (l, b, 0) := by
  have h := ytake_back (qpack l) b
  rw [qpack_len] at h
  rw [qtakeM_yes h (qpack_spare l), qbits_qpack]
/-- How many are true. -/
def qcount (l : List Bool) : Nat := (l.filter fun b => b).length
theorem qcount_le (l : List Bool) : qcount l ≤ l.length := List.length_filter_le _ _
theorem qcount_snoc (l : List Bool) {k : Nat} (h : k < l.length) : qcount (l.take (k + 1)) = qcount (l.take k) + l[k].toNat := by
  rw [List.take_succ_eq_append_getElem h, qcount, qcount, List.filter_append, List.length_append]
  cases l[k] <;> rfl
theorem qcount_append (a b : List Bool) : qcount (a ++ b) = qcount a + qcount b := by simp [qcount]
theorem qcount_not : ∀ l : List Bool, qcount (l.map (!·)) + qcount l = l.length
  | [] => rfl
  | b :: l => by
    have := qcount_not l
    unfold qcount at *
    cases b <;> simp at * <;> omega
/-- Bytes of which some bits are looked at are nought from a place on, just when each bit from there on is. -/
theorem bits_zero {x : List UInt8} {M k : Nat} (hM : M ≤ k) (hk : k ≤ 8 * x.length) (h : ∀ i, M ≤ i → i < k → btake (bval x) (8 * x.length) i 1 = 0) : btake (bval x) (8 * x.length) M (k - M) = 0 := by
  induction k with
  | zero => rw [show 0 - M = 0 by omega]; exact btake_zero _ _ _
  | succ k ih =>
    by_cases hMk : M = k + 1
    · subst hMk; rw [Nat.sub_self]; exact btake_zero _ _ _
    · have h1 := ih (by omega) (by omega) fun i h1 h2 => h i h1 (by omega)
      have h2 := btake_add (B := bval x) (M := 8 * x.length) (at_ := M) (a := k - M) (n := 1) (by omega)
      rw [h1, show M + (k - M) = k by omega, h k (by omega) (by omega), show k - M + 1 = k + 1 - M by omega] at h2
      omega
theorem spare_bit {B N M k : Nat} (h : B % 2 ^ (N - M) = 0) (hM : M ≤ k) (hk : k < N) : btake B N k 1 = 0 := by
  unfold btake
  obtain ⟨t, rfl⟩ : ∃ t, B = 2 ^ (N - M) * t := ⟨B / 2 ^ (N - M), by have := Nat.div_add_mod B (2 ^ (N - M)); rw [h] at this; omega⟩
  rw [show N - M = (N - (k + 1)) + ((k - M) + 1) by omega, Nat.pow_add, Nat.mul_assoc, Nat.mul_div_cancel_left _ (Nat.two_pow_pos _), Nat.pow_succ, Nat.pow_one, Nat.mul_comm (2 ^ (k - M)), Nat.mul_assoc, Nat.mul_mod_right]
theorem spare_all {x : List UInt8} {M : Nat} (hM : M ≤ 8 * x.length) (h : ∀ i, M ≤ i → i < 8 * x.length → btake (bval x) (8 * x.length) i 1 = 0) : bval x % 2 ^ (8 * x.length - M) = 0 := by
  have h1 := bits_zero hM (Nat.le_refl _) h
  rw [btake_spare hM] at h1
  exact h1
end Go.Proofs.Ytffglnccpbbclaa
