
/- Contracts of layer 12's reference: Number and May. -/

import Derived.Test.YtljepanilfbjgaaKRef

import Derived.Test.YtljepanilfbjgaaUtf

namespace Go.Proofs.Ytljepanilfbjgaa

open Go.RowKit

def knumber (k : Int) : Bool := decide (1 ≤ k) && decide (k ≤ 5)
def kmay (k : Int) (v : CV) : Bool :=
  if (decide (k < 1) || decide (7 < k)) = true then false
  else if v.null = true then (v.n == 0) && (v.s.toList == [])
  else if decide (k ≤ 5) = true then (v.s.toList == []) && (((k != 1) || (v.n == 0)) || (v.n == 1))
  else ((v.n == 0) && decide ((v.s.size : Int) ≤ 300)) && ((k == 7) || Lib.validD v.s.data.toList)
/-- The same, of its tests. -/
def kmayB (c1 c2 b n0 s0 c5 k1 n1 len k7 v : Bool) : Bool :=
  bif c1 || c2 then false else bif b then n0 && s0 else bif c5 then s0 && ((k1 || n0) || n1) else (n0 && len) && (k7 || v)
theorem kmay_of (k : Int) (b : Bool) (n : Int) (s : ByteArray) : kmay k ⟨b, n, s⟩ = kmayB (decide (k < 1)) (decide (7 < k)) b (n == 0) (s.toList == []) (decide (k ≤ 5)) (k != 1) (n == 1) (decide ((s.size : Int) ≤ 300)) (k == 7) (Lib.validD s.data.toList) := by
  unfold kmay kmayB
  simp only [cond_eq_ite]
end Go.Proofs.Ytljepanilfbjgaa
