
/- Slices of structs that come in: columns, values. -/

import Derived.Test.YtffglnccpbbclaaWOpen

import Derived.Test.YtffglnccpbbclaaKOpen

namespace Go.Proofs.Ytffglnccpbbclaa

open Go.RowKit Go.ChangeShapes Go.WideShapes Go.Deep

instance : Inhabited CC := ⟨⟨⟨#[]⟩, 0⟩⟩
instance : Inhabited CV := ⟨⟨false, 0, ⟨#[]⟩⟩⟩
section

variable {H : Type} {enc : TypeId × Value → H} {W : World} {v : Value} {d : DataW H} {ps : List MemPlace} {base : Nat}
theorem Try.cells_string : Try.prog.cellsOf 9 = 1 := by kernel_rfl
theorem Try.cells_int : Try.prog.cellsOf 3 = 1 := by kernel_rfl
theorem Try.cells_bool : Try.prog.cellsOf 4 = 1 := by kernel_rfl
set_option maxRecDepth 100000 in
theorem open_vals (hval : Value.okWide Try.prog W .any base 22 v) (hd : DataW.Trod enc Try.prog W 0 (fun _ => true) true 22 v d ps) (hlt : ∀ x ∈ ps, x.block < W.heap.size) :
    ∃ l : List CV, IsR kcells l v W ∧ (∀ x ∈ l, x.inInt) ∧ ∀ x ∈ l, x.s.size ≤ maxLen := by
  obtain ⟨l, h1, h2⟩ := open_wide (f := kcells) (m := 3) (p := fun x => x.inInt ∧ x.s.size ≤ maxLen) Try.underlying22 (by kernel_rfl) (by omega) (fun _ => rfl) (fun cs n x hlen h => by
    obtain ⟨xs, k, hk, hxy, _, hxl, hf⟩ := DataW.trod_struct Try.underlying42 h
    match xs, hxl, cs, hlen with
    | [y0, y1, y2], _, [v0, v1, v2], _ =>
      have g0 := hf 0 _ rfl
      have g1 := hf 1 _ rfl
      have g2 := hf 2 _ rfl
      simp [Try.cells_string, Try.cells_int, Try.cells_bool] at g0 g1 g2
      obtain ⟨b, e0, _⟩ := DataW.trod_bool Try.underlying4 g0
      obtain ⟨i, e1, _, hw⟩ := DataW.trod_int Try.underlying3 g1
      obtain ⟨s, e2, _, hs⟩ := DataW.trod_string Try.underlying9 g2
      simp at e0 e1 e2
      subst e0 e1 e2
      exact ⟨⟨b, i, s⟩, rfl, wf_i64 hw, hs⟩) hval hd hlt
  exact ⟨l, h1, fun x hx => (h2 x hx).1, fun x hx => (h2 x hx).2⟩
end

end Go.Proofs.Ytffglnccpbbclaa
