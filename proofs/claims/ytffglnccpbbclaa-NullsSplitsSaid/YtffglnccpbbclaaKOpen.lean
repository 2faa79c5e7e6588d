
/- A value (a struct of a truth, a number, a text) that comes in. -/

import Derived.Test.YtffglnccpbbclaaKRef

import Derived.Test.YtffglnccpbbclaaLaw

import Derived.Lib.SmallJoins

namespace Go.Proofs.Ytffglnccpbbclaa

open Go.RowKit

set_option maxRecDepth 100000 in
set_option maxHeartbeats 2000000 in
theorem open_val {H : Type} {enc : TypeId × Value → H} {W : World} {v : Value} {d : DataW H} {ps : List MemPlace} {base : Nat}
    (hval : Value.okWide Try.prog W .any base 42 v) (hd : DataW.Trod enc Try.prog W 0 (fun _ => true) true 42 v d ps) :
    ∃ c : CV, v = cv c ∧ c.inInt ∧ c.s.size ≤ maxLen := by
  obtain ⟨v0, v1, v2, y0, y1, y2, n, rfl, _, _, h0, h1, h2⟩ := Joins.open_agg3 Try.underlying42 (by kernel_rfl) (by kernel_rfl) hval hd
  obtain ⟨b, e0, _⟩ := DataW.trod_bool Try.underlying4 h0
  obtain ⟨i, e1, _, hw⟩ := DataW.trod_int Try.underlying3 h1
  obtain ⟨s, e2, _, hs⟩ := DataW.trod_string Try.underlying9 h2
  simp at e0 e1 e2
  subst e0 e1 e2
  exact ⟨⟨b, i, s⟩, rfl, (wf_i64 hw), hs⟩
end Go.Proofs.Ytffglnccpbbclaa
