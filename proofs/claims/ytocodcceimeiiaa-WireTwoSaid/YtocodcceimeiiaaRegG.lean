
/- A region that draws and stores once, into a block of the call's own: the relation 'what holds of that block, or what will'. Over any program. -/

import Derived.Test.YtocodcceimeiiaaRegR

import Derived.Test.YtocodcceimeiiaaWMake

namespace Go.Proofs.Ytocodcceimeiiaa

open Go.RowKit

/-- Block g alone may change; from O to G. -/
def GetsTo (g : Nat) (O G : World → Prop) (w w' : World) : Prop := w.grownBy w' (some g) ∧ (O w ∨ G w → O w' ∨ G w') ∧ (G w → G w')
theorem getsTo_later (g : Nat) (O G : World → Prop) (hO : ∀ w, O w → O { w with drawn := w.drawn + 1 }) (hG : ∀ w, G w → G { w with drawn := w.drawn + 1 }) : Later (GetsTo g O G) where
  refl := fun _ => ⟨⟨rfl, rfl, rfl, Nat.le_refl _, fun _ _ _ => rfl⟩, id, id⟩
  trans := fun ⟨a1, a2, a3⟩ ⟨b1, b2, b3⟩ => ⟨⟨b1.os.trans a1.os, b1.tape.trans a1.tape, b1.output.trans a1.output, Nat.le_trans a1.size b1.size, fun k hk hne => (b1.block k (Nat.lt_of_lt_of_le hk a1.size) hne).trans (a1.block k hk hne)⟩, fun h => b2 (a2 h), fun h => b3 (a3 h)⟩
  draw := fun w => ⟨⟨rfl, rfl, rfl, Nat.le_refl _, fun _ _ _ => rfl⟩, fun h => h.elim (fun h => .inl (hO w h)) (fun h => .inr (hG w h)), hG w⟩
/-- An operation that makes memory alone. -/
theorem getsTo_below {g : Nat} {O G : World → Prop} (hO : ∀ w w', Below w.heap.size w w' → O w → O w') (hG : ∀ w w', Below w.heap.size w w' → G w → G w') {w w' : World} (h : Below w.heap.size w w') : GetsTo g O G w w' :=
  ⟨⟨h.os, h.tape, h.output, h.size, fun k hk _ => h.block k hk⟩, fun k => k.elim (fun k => .inl (hO w w' h k)) (fun k => .inr (hG w w' h k)), hG w w' h⟩
/-- The operation that stores. -/
theorem getsTo_set {g : Nat} {O G : World → Prop} {w : World} {cs : Array Value} (h : G (w.setRow g cs)) : GetsTo g O G w (w.setRow g cs) :=
  ⟨⟨rfl, rfl, rfl, by simp [World.setRow], fun k _ hg => setRow_other w g k _ (fun e => hg (by rw [e]))⟩, fun _ => .inr h, fun _ => h⟩
/-- append([]T(nil), x...), of bytes: they lie in a row of the call's own. -/
theorem gives_copyO {P : Program} {o : Oper} {ρ : Operand → Value} {w : World} {R : Value → World → Prop} {t e : TypeId} {z : Value} (E : Elem P t e 1 z) {s x : Operand} {l : List UInt8} {v : Value} (ho : o.op = .call { callee := .builtin .append, args := #[s, x], argTypes := #[t, t] }) (hs : ρ s = .slice none 0 0) (hx : ρ x = v) (hv : IsB l v w)
    (hl : l.length ≤ 1000000000) (hR : ∀ v' w', w'.ownsRow w.heap.size e 1 v' l.length (l.map bv) → Below w.heap.size w w' → R v' w') : Gives P o ρ w R := by
  obtain ⟨A, c, rfl, h1, h2, h3, h4⟩ := hv
  obtain ⟨i, g1, g2, g3, g4⟩ := E.info
  have g5 : z.cells.size = 1 := by rw [E.one]; rfl
  obtain ⟨v', w', hrun, h5, h6, _⟩ := run_append_lies (P := P) w w.heap.size t o.type e i z 1 E.under g1 g2 g3 g4 g5 (.slice none 0 0) 0 [] (World.ownsRow_nil _ _ _ _) A l.length c h1 (l.map bv) (by simp) h4 (bv_one _) (by unfold maxLen; omega) (by omega) (Nat.le_refl _)
  refine gives_of (v := v') (w' := w') ?_ (hR v' w' (by simpa using h5) ((Below.refl _ w).grown h6 (Nat.le_refl _) fun k hk => by simp [Value.ownBlock] at hk))
  simp [execOp, ho, resolve, invoke, builtin, hs, hx, hrun]
end Go.Proofs.Ytocodcceimeiiaa
