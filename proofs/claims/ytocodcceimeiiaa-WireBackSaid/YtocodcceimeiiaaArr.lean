
/- Arrays by value: a block that is made, loaded and stored whole. Over any program. -/

import Derived.Test.YtocodcceimeiiaaCom

import Derived.Deep.WholeRow

namespace Go.Proofs.Ytocodcceimeiiaa

open Go.RowKit

/-- Cells that are all the same. (A name of its own: the walk's simp writes List.replicate out.) -/
def zeroRow (n : Nat) (z : Value) : List Value := List.replicate n z
theorem zeroRow_len (n : Nat) (z : Value) : (zeroRow n z).length = n := by simp [zeroRow]
/-- The facts on an array type of n elements of one cell. -/
structure ArrT (P : Program) (t e : TypeId) (n : Nat) (z : Value) : Prop where
  under : P.underlying t = some (.array n e)
  info : (P.info? t).map (fun i => (i.zero, i.size)) = some (some (.agg (zeroRow n z).toArray), n)
theorem ArrT.size_ {P : Program} {t e : TypeId} {n : Nat} {z : Value} (E : ArrT P t e n z) : (P.info? t).map (·.size) = some n := (zero_of_info E.info).2

section

variable {P : Program} {w : World} {ops : Array Oper} {rest : List Oper} {o : Oper} {a : Act} {Q : Exit → Act → World → Prop} {t e : TypeId} {n : Nat} {z : Value}
/-- A variable of an array type. -/
theorem wpList_allocArr (E : ArrT P t e n z) (hgd : o.guard = none) (ho : o.op = .alloc t)
    (h : ∀ w', Row w' w.heap.size t (zeroRow n z) → Below w.heap.size w w' → wpList P ops Q rest (a.put o.dst (.pointer (some ⟨w.heap.size, 0, none⟩))) w') : wpList P ops Q (o :: rest) a w := by
  have hz := (zero_of_info E.info).1
  refine wpList_plain hgd fun K hK => ?_
  unfold Oper.wp execOp
  simp only [ho, Instr.alloc, newVar, newRow, Sem.run_bind, Sem.run_pure, hz, Result.andThen_ok, run_newObj]
  refine hK _ _ (h _ ?_ ((Below.refl _ _).alloc (Nat.le_refl _) _))
  exact heap_alloc_new w _
/-- The whole of it loaded. -/
theorem wpList_loadArr (E : ArrT P t e n z) (hgd : o.guard = none) (x : Operand) (ho : o.op = .load t x) (g : Nat) (t' : TypeId) (cs : List Value) (hx : a.eval x = .pointer (some ⟨g, 0, none⟩)) (hr : Row w g t' cs) (hl : cs.length = n)
    (h : wpList P ops Q rest (a.put o.dst (.agg cs.toArray)) w) : wpList P ops Q (o :: rest) a w :=
  wpList_load_row hgd t x ho g hx t' cs.toArray (0, 0) _ hr E.under rfl (by rw [E.size_, ← hl]; simp) h
/-- The whole of it stored. -/
theorem wpList_storeArr (E : ArrT P t e n z) (hgd : o.guard = none) (x y : Operand) (ho : o.op = .store t x y) (g : Nat) (t' : TypeId) (old cs : List Value) (hx : a.eval x = .pointer (some ⟨g, 0, none⟩)) (hy : a.eval y = .agg cs.toArray) (hr : Row w g t' old)
    (hl : cs.length = n) (hl' : old.length = n) (h1 : ∀ u ∈ cs, u.oneCell' = true) (w0 : World) (B : Nat) (hb : Below B w0 w) (hB : B ≤ g)
    (h : ∀ w', Row w' g t' cs → Below B w0 w' → (∀ k ty l, k ≠ g → Row w k ty l → Row w' k ty l) → wpList P ops Q rest (a.put o.dst undef) w') : wpList P ops Q (o :: rest) a w := by
  have hrun := run_storeVar_row (P := P) w g t' t old.toArray cs.toArray hr (by rw [E.size_, ← hl]; simp) (by simp [hl, hl']) (by simpa using h1)
  refine wpList_plain hgd fun K hK => ?_
  unfold Oper.wp execOp
  simp only [ho, hx, hy, Instr.storeAt, Instr.sureAddr, Sem.run_bind, Sem.run_pure, Result.andThen_ok, hrun]
  refine hK _ _ (h _ (setRow_heap w g old.toArray cs.toArray t' (0, 0) hr) ?_ ?_)
  · exact below_setRow hb hB _
  · intro k ty l hk hrk
    exact (setRow_other w g k cs.toArray hk).trans hrk
end
/-- A row of which the first k cells are filled. -/
def fillTo (xs : List Value) (z : Value) (k : Nat) : List Value := xs.take k ++ List.replicate (xs.length - k) z
theorem fillTo_zero (xs : List Value) (z : Value) : fillTo xs z 0 = zeroRow xs.length z := by simp [fillTo, zeroRow]
theorem fillTo_all (xs : List Value) (z : Value) : fillTo xs z xs.length = xs := by simp [fillTo]
theorem fillTo_len (xs : List Value) (z : Value) {k : Nat} (h : k ≤ xs.length) : (fillTo xs z k).length = xs.length := by simp [fillTo]; omega
theorem fillTo_set (xs : List Value) (z : Value) {k : Nat} (h : k < xs.length) : (fillTo xs z k).set k xs[k] = fillTo xs z (k + 1) := by
  unfold fillTo
  have hl : (xs.take k).length = k := by rw [List.length_take]; omega
  obtain ⟨m, hm⟩ : ∃ m, xs.length - k = m + 1 := ⟨xs.length - k - 1, by omega⟩
  rw [List.set_append_right _ _ (by omega), hl, Nat.sub_self, hm, List.replicate_succ, List.set_cons_zero, List.take_succ_eq_append_getElem h, show xs.length - (k + 1) = m by omega, List.append_assoc]
  rfl
/-- What a function answers through a variable of an array type. -/
theorem ret_arr {P : Program} {f : Func} {p : Tmp} {t e : TypeId} {n : Nat} {z : Value} (E : ArrT P t e n z) {K : Ending → World → Prop} {a : Act} {w : World} {g : Nat} {t' : TypeId} {cs : List Value} (hf : f.results = #[.cell p t])
    (hp : a.tmps.getD p undef = .pointer (some ⟨g, 0, none⟩)) (hr : Row w g t' cs) (hl : cs.length = n) (hd : a.defers = []) (hK : K (.returned (.agg cs.toArray)) w) : bodyPost P f K .ret a w :=
  bodyPost_ret (v := .agg cs.toArray) (results_cell_row hf a.tmps w g t' cs.toArray (0, 0) _ hp hr E.under rfl (by rw [E.size_, ← hl]; simp)) hd hK
end Go.Proofs.Ytocodcceimeiiaa
