
/- The program's contract of layer 12: named. -/

import Derived.Test.YtljepanilfbjgaaKNameO

namespace Go.Proofs.Ytljepanilfbjgaa

open Go.RowKit

/-- Whether one of the columns has that name. -/
def knamed (l : List CC) (s : ByteArray) : Bool := l.any fun x => x.s.toList == s.toList
def NamedRel (l : List CC) (s : ByteArray) (w : World) (i : Value) (wr : World) : Prop := ∃ j : Nat, j ≤ l.length ∧ i = .int .i64 (j : Int) ∧ knamed (l.take j) s = false ∧ Below w.heap.size w wr
theorem knamed_at {l : List CC} {s : ByteArray} {j : Nat} (hj : j < l.length) : knamed (l.take (j + 1)) s = (knamed (l.take j) s || (l[j].s.toList == s.toList)) := by
  unfold knamed
  rw [List.take_succ_eq_append_getElem hj, List.any_append]
  simp
theorem knamed_more {l : List CC} {s : ByteArray} {j : Nat} (h : knamed (l.take j) s = true) : knamed l s = true := by
  unfold knamed at *
  rw [List.any_eq_true] at *
  obtain ⟨x, hx, h⟩ := h
  exact ⟨x, List.mem_of_mem_take hx, h⟩
end Go.Proofs.Ytljepanilfbjgaa
