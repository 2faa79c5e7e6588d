
/- Slices of structs that come in: columns, values. -/

import Derived.Test.YtljepanilfbjgaaDoorWOpen

import Derived.Test.YtljepanilfbjgaaDoorKOpen

namespace Go.Proofs.YtljepanilfbjgaaDoor

open Go.RowKit Go.ChangeShapes Go.WideShapes Go.Deep

instance : Inhabited CC := ⟨⟨⟨#[]⟩, 0⟩⟩
instance : Inhabited CV := ⟨⟨false, 0, ⟨#[]⟩⟩⟩
section

variable {H : Type} {enc : TypeId × Value → H} {W : World} {v : Value} {d : DataW H} {ps : List MemPlace} {base : Nat}
theorem Tryd.cells_string : Tryd.prog.cellsOf 9 = 1 := by kernel_rfl
theorem Tryd.cells_int : Tryd.prog.cellsOf 3 = 1 := by kernel_rfl
theorem Tryd.cells_bool : Tryd.prog.cellsOf 4 = 1 := by kernel_rfl
set_option maxRecDepth 100000 in
theorem open_cols (hval : Value.okWide Tryd.prog W .any base 27 v) (hd : DataW.Trod enc Tryd.prog W 0 (fun _ => true) true 27 v d ps) (hlt : ∀ x ∈ ps, x.block < W.heap.size) :
    ∃ l : List CC, IsR ccells l v W ∧ (∀ x ∈ l, x.s.size ≤ maxLen) ∧ ∀ x ∈ l, -9223372036854775808 ≤ x.kind ∧ x.kind ≤ 9223372036854775807 := by
  obtain ⟨l, h1, h2⟩ := open_wide (f := ccells) (m := 2) (p := fun x => x.s.size ≤ maxLen ∧ -9223372036854775808 ≤ x.kind ∧ x.kind ≤ 9223372036854775807) Tryd.underlying27 (by kernel_rfl) (by omega) (fun _ => rfl) (fun cs n x hlen h => by
    obtain ⟨xs, k, hk, hxy, _, hxl, hf⟩ := DataW.trod_struct Tryd.underlying36 h
    match xs, hxl, cs, hlen with
    | [y0, y1], _, [v0, v1], _ =>
      have g0 := hf 0 _ rfl
      have g1 := hf 1 _ rfl
      simp [Tryd.cells_string, Tryd.cells_int] at g0 g1
      obtain ⟨s, e0, _, hs⟩ := DataW.trod_string Tryd.underlying9 g0
      obtain ⟨i, e1, _, hw⟩ := DataW.trod_int Tryd.underlying3 g1
      simp at e0 e1
      subst e0 e1
      exact ⟨⟨s, i⟩, rfl, hs, wf_i64 hw⟩) hval hd hlt
  exact ⟨l, h1, fun x hx => (h2 x hx).1, fun x hx => (h2 x hx).2⟩
set_option maxRecDepth 100000 in
theorem open_vals (hval : Value.okWide Tryd.prog W .any base 28 v) (hd : DataW.Trod enc Tryd.prog W 0 (fun _ => true) true 28 v d ps) (hlt : ∀ x ∈ ps, x.block < W.heap.size) :
    ∃ l : List CV, IsR kcells l v W ∧ (∀ x ∈ l, x.inInt) ∧ ∀ x ∈ l, x.s.size ≤ maxLen := by
  obtain ⟨l, h1, h2⟩ := open_wide (f := kcells) (m := 3) (p := fun x => x.inInt ∧ x.s.size ≤ maxLen) Tryd.underlying28 (by kernel_rfl) (by omega) (fun _ => rfl) (fun cs n x hlen h => by
    obtain ⟨xs, k, hk, hxy, _, hxl, hf⟩ := DataW.trod_struct Tryd.underlying23 h
    match xs, hxl, cs, hlen with
    | [y0, y1, y2], _, [v0, v1, v2], _ =>
      have g0 := hf 0 _ rfl
      have g1 := hf 1 _ rfl
      have g2 := hf 2 _ rfl
      simp [Tryd.cells_string, Tryd.cells_int, Tryd.cells_bool] at g0 g1 g2
      obtain ⟨b, e0, _⟩ := DataW.trod_bool Tryd.underlying4 g0
      obtain ⟨i, e1, _, hw⟩ := DataW.trod_int Tryd.underlying3 g1
      obtain ⟨s, e2, _, hs⟩ := DataW.trod_string Tryd.underlying9 g2
      simp at e0 e1 e2
      subst e0 e1 e2
      exact ⟨⟨b, i, s⟩, rfl, wf_i64 hw, hs⟩) hval hd hlt
  exact ⟨l, h1, fun x hx => (h2 x hx).1, fun x hx => (h2 x hx).2⟩
end

end Go.Proofs.YtljepanilfbjgaaDoor
