
/- The contract of layer 12's reference: Row. -/

import Derived.Test.YtljepanilfbjgaaKMay1

import Derived.Test.YtljepanilfbjgaaWide

namespace Go.Proofs.Ytljepanilfbjgaa

open Go.RowKit

theorem val_size (W : World) : (sizeOf 23).run Try.prog W = .ok 3 W := by kernel_rfl
/-- Whether the first k values fit. -/
def kfits (l : List CC) (r : List CV) (k : Nat) : Prop := ∀ j, (h : j < l.length) → (h' : j < r.length) → j < k → kmay l[j].kind r[j] = true
open Classical in
noncomputable def krow (l : List CC) (r : List CV) : Int := if l.length = r.length ∧ kfits l r l.length then 0 else 21
theorem krow_no {l : List CC} {r : List CV} {k : Nat} (h : k < l.length) (h' : k < r.length) (hk : kmay l[k].kind r[k] = false) : krow l r = 21 := by
  unfold krow
  rw [if_neg]
  intro h2
  have := h2.2 k h h' h
  rw [hk] at this
  cases this
theorem kfits_next {l : List CC} {r : List CV} {k : Nat} (hc : kfits l r k) (h : k < l.length) (h' : k < r.length) (hk : kmay l[k].kind r[k] = true) : kfits l r (k + 1) := by
  intro j hj hj' hjk
  by_cases e : j = k
  · subst e; exact hk
  · exact hc j hj hj' (by omega)
def RowRel (l : List CC) (r : List CV) (w : World) (i : Value) (wr : World) : Prop := ∃ k : Nat, k ≤ l.length ∧ i = .int .i64 (k : Int) ∧ kfits l r k ∧ Below w.heap.size w wr
end Go.Proofs.Ytljepanilfbjgaa
