
/- The contract of layer 12's reference: Schema. -/

import Derived.Test.YtljepanilfbjgaaKRow

import Derived.Test.YtljepanilfbjgaaKName

import Derived.BigQuiet

namespace Go.Proofs.Ytljepanilfbjgaa

open Go.RowKit

def kcolok (l : List CC) (i : Nat) : Prop := ∃ h : i < l.length, kname l[i].s = true ∧ 1 ≤ l[i].kind ∧ l[i].kind ≤ 7 ∧ ∀ j, (hj : j < i) → l[j].s.toList ≠ l[i].s.toList
open Classical in
noncomputable def kscheme (l : List CC) : Int := if 1 ≤ l.length ∧ l.length ≤ 6 ∧ ∀ i, i < l.length → kcolok l i then 0 else 20
theorem kscheme_no {l : List CC} {i : Nat} (h : i < l.length) (hk : ¬ kcolok l i) : kscheme l = 20 := by
  unfold kscheme
  rw [if_neg]
  exact fun h2 => hk (h2.2.2 i h)
def SchRel (l : List CC) (w : World) (i : Value) (wr : World) : Prop := ∃ k : Nat, k ≤ l.length ∧ i = .int .i64 (k : Int) ∧ (∀ j, j < k → kcolok l j) ∧ Below w.heap.size w wr
def SchRel2 (l : List CC) (k : Nat) (hk : k < l.length) (w : World) (i : Value) (wr : World) : Prop := ∃ j : Nat, j ≤ k ∧ i = .int .i64 (j : Int) ∧ (∀ m, (h : m < j) → (h' : m < k) → l[m].s.toList ≠ l[k].s.toList) ∧ Below w.heap.size w wr
end Go.Proofs.Ytljepanilfbjgaa
