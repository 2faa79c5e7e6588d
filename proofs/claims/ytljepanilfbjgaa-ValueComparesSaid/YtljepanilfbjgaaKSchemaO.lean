
/- The program's contracts of layer 12: Schema, Row. -/

import Derived.Test.YtljepanilfbjgaaKSchema

import Derived.Test.YtljepanilfbjgaaKNamedO

import Derived.Test.YtljepanilfbjgaaKMayO

namespace Go.Proofs.Ytljepanilfbjgaa

open Go.RowKit

theorem gives_notK {P : Program} {o : Oper} {ρ : Operand → Value} {w : World} {R : Value → World → Prop} {t : TypeId} {x : Operand} {b : Bool} (ho : o.op = .unOp .not t x) (hx : ρ x = .bool b) (hR : R (.bool !b) w) : Gives P o ρ w R := by
  refine gives_of (v := .bool !b) (w' := w) ?_ hR
  simp [execOp, ho, hx, go_sem]
/-- x[:h] of a slice of structs. -/
theorem gives_uptoK {P : Program} {o : Oper} {ρ : Operand → Value} {w : World} {R : Value → World → Prop} {t e : TypeId} {m : Nat} (ht : P.underlying t = some (.slice e)) (hs : ∀ W, (sizeOf e).run P W = .ok m W) {x y : Operand} {ad : Addr} {n c h : Nat} (ho : o.op = .slice t x none (some y) none) (hx : ρ x = .slice (some ad) n c) (hy : ρ y = .int .i64 (h : Int)) (hc : h ≤ c)
    (hR : R (.slice (some ad) h c) w) : Gives P o ρ w R := by
  refine gives_slice ho hx (lo' := none) rfl (hi' := some (.int .i64 (h : Int))) (by simp [hy]) (mx' := none) rfl (v := .slice (some ad) h c) (w' := w) ?_ hR
  have he : P.elem t = e := by simp [Program.elem, ht]
  rw [run_sliceAt_slice w t _ _ _ _ (by rw [he]; exact ht), run_slice_h w t (some ad) n c (by rw [he]; exact ht) .i64 (h : Int) (by omega) (by omega), he, hs]
  simp [sliced, Addr.add]
theorem knamed_false {l : List CC} {s : ByteArray} {k : Nat} (h : knamed (l.take k) s = false) (j : Nat) (hj : j < l.length) (hk : j < k) : l[j].s.toList ≠ s.toList := by
  intro e
  unfold knamed at h
  rw [List.any_eq_false] at h
  refine h l[j] (List.mem_take_iff_getElem.2 ⟨j, by omega, rfl⟩) (by simp [e])
theorem knamed_true {l : List CC} {s : ByteArray} {k : Nat} (h : knamed (l.take k) s = true) : ∃ j, ∃ hj : j < l.length, j < k ∧ l[j].s.toList = s.toList := by
  unfold knamed at h
  rw [List.any_eq_true] at h
  obtain ⟨x, hx, h⟩ := h
  obtain ⟨j, hj, rfl⟩ := List.mem_take_iff_getElem.1 hx
  exact ⟨j, by omega, by omega, by simpa using h⟩
def RowRelO (l : List CC) (r : List CV) (w : World) (i : Value) (wr : World) : Prop := ∃ k : Nat, k ≤ r.length ∧ i = .int .i64 (k : Int) ∧ kfits l r k ∧ Below w.heap.size w wr
end Go.Proofs.Ytljepanilfbjgaa
