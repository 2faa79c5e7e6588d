
/- Contract of layer 12's reference: whether a column's name may be. -/

import Derived.Test.YtljepanilfbjgaaKRef

namespace Go.Proofs.Ytljepanilfbjgaa

open Go.RowKit

/-- Whether a byte may stand in a name (its value as a number). -/
def kchar (c : Int) : Bool := !((decide (c < 97) || decide (122 < c)) && (decide (c < 48) || decide (57 < c)) && (c != 95))
def kchars (s : ByteArray) (k : Nat) : Prop := ∀ j, (h : j < s.size) → j < k → kchar (s[j].toNat : Int) = true
noncomputable instance (s : ByteArray) (k : Nat) : Decidable (kchars s k) := Classical.propDecidable _
noncomputable def kname (s : ByteArray) : Bool := decide (kchars s s.size) && (!(s.toList == []) && decide ((s.size : Int) ≤ 20))
theorem kchar_yes (c : Int) : kchar c = true ↔ ¬((c < 97 ∨ 122 < c) ∧ (c < 48 ∨ 57 < c) ∧ c ≠ 95) := by
  unfold kchar
  simp only [Bool.not_eq_true', Bool.and_eq_false_iff, Bool.or_eq_false_iff, decide_eq_false_iff_not, bne_eq_false_iff_eq]
  omega
theorem kname_no {s : ByteArray} {k : Nat} (h : k < s.size) (hk : ¬ kchar (s[k].toNat : Int) = true) : false = kname s := by
  unfold kname
  rw [decide_eq_false fun h2 => hk (h2 k h h)]
  rfl
theorem kchars_next {s : ByteArray} {k : Nat} (hc : kchars s k) (h : k < s.size) (hk : kchar (s[k].toNat : Int) = true) : kchars s (k + 1) := by
  intro j hj hjk
  by_cases e : j = k
  · subst e; exact hk
  · exact hc j hj (by omega)
def NameRel (s : ByteArray) (i : Value) : Prop := ∃ k : Nat, k ≤ s.size ∧ i = .int .i64 (k : Int) ∧ kchars s k
end Go.Proofs.Ytljepanilfbjgaa
