
/- Operations on numbers in a region that draws: what each yields; slices of one number. Over any program. -/

import Derived.Test.YtocodcceimeiiaaStr

import Derived.Test.YtocodcceimeiiaaSl

namespace Go.Proofs.Ytocodcceimeiiaa

open Go.RowKit

def Fact.vals {α : Type} (f : α → Value) (l : List α) : Fact := ⟨IsV f l, fun _ _ _ h hb => h.below hb⟩
section

variable {P : Program} {o : Oper} {ρ : Operand → Value} {w : World} {R : Value → World → Prop}
theorem gives_shl64 {t t' : TypeId} {x y : Operand} {a r : Int} {k : Nat} (ho : o.op = .binOp .shl t x y t') (hx : ρ x = .int .u64 a) (hy : ρ y = .int .i64 (k : Int)) (hk : k ≤ 64) (h : IntKind.u64.wrap (a * 2 ^ k) = r) (hR : R (.int .u64 r) w) : Gives P o ρ w R := by
  refine gives_of (v := .int .u64 r) (w' := w) ?_ hR
  simp [execOp, ho, hx, hy, go_sem, h]
theorem gives_shlI {t t' : TypeId} {x y : Operand} {a r : Int} {k : Nat} (ho : o.op = .binOp .shl t x y t') (hx : ρ x = .int .i64 a) (hy : ρ y = .int .i64 (k : Int)) (hk : k ≤ 64) (h : IntKind.i64.wrap (a * 2 ^ k) = r) (hR : R (.int .i64 r) w) : Gives P o ρ w R := by
  refine gives_of (v := .int .i64 r) (w' := w) ?_ hR
  simp [execOp, ho, hx, hy, go_sem, h]
theorem gives_andI {t t' : TypeId} {x y : Operand} {a b r : Int} (ho : o.op = .binOp .and t x y t') (hx : ρ x = .int .i64 a) (hy : ρ y = .int .i64 b) (h : bits .and .i64 a b = r) (hR : R (.int .i64 r) w) : Gives P o ρ w R := by
  refine gives_of (v := .int .i64 r) (w' := w) ?_ hR
  simp [execOp, ho, hx, hy, go_sem, h]
theorem gives_sub64 {t t' : TypeId} {x y : Operand} {a b r : Int} (ho : o.op = .binOp .sub t x y t') (hx : ρ x = .int .u64 a) (hy : ρ y = .int .u64 b) (h : IntKind.u64.wrap (a - b) = r) (hR : R (.int .u64 r) w) : Gives P o ρ w R := by
  refine gives_of (v := .int .u64 r) (w' := w) ?_ hR
  simp [execOp, ho, hx, hy, go_sem, h]
theorem gives_add64 {t t' : TypeId} {x y : Operand} {a b r : Int} (ho : o.op = .binOp .add t x y t') (hx : ρ x = .int .u64 a) (hy : ρ y = .int .u64 b) (h : IntKind.u64.wrap (a + b) = r) (hR : R (.int .u64 r) w) : Gives P o ρ w R := by
  refine gives_of (v := .int .u64 r) (w' := w) ?_ hR
  simp [execOp, ho, hx, hy, go_sem, h]
theorem gives_and64 {t t' : TypeId} {x y : Operand} {a b r : Int} (ho : o.op = .binOp .and t x y t') (hx : ρ x = .int .u64 a) (hy : ρ y = .int .u64 b) (h : bits .and .u64 a b = r) (hR : R (.int .u64 r) w) : Gives P o ρ w R := by
  refine gives_of (v := .int .u64 r) (w' := w) ?_ hR
  simp [execOp, ho, hx, hy, go_sem, h]
theorem gives_conv {s d : TypeId} {k k' : IntKind} {x : Operand} {n r : Int} (ho : o.op = .convert s d x) (hx : ρ x = .int k n) (hs : (P.underlying s).isSome = true) (hd : P.underlying d = some (.int k')) (h : k'.wrap n = r) (hR : R (.int k' r) w) : Gives P o ρ w R := by
  refine gives_convert ho hx (v := .int k' r) (w' := w) ?_ hR
  obtain ⟨e, he⟩ := Option.isSome_iff_exists.mp hs
  simp [convert, run_underlying he, run_underlying hd, Conv.intToInt, h]
/-- A slice literal of one value. -/
theorem gives_val {α : Type} {f : α → Value} {t e : TypeId} {bytes : Nat} {z : Value} (E : Elem P t e bytes z) {a : α} {x : Operand} (ho : o.op = .buildSlice t 1 #[(0, x)]) (hx : ρ x = f a) (hu : (f a).cells = #[f a]) (hR : ∀ v w', IsV f [a] v w' → Below w.heap.size w w' → R v w') : Gives P o ρ w R :=
  gives_one E ho hx hu (hR _ _ (isV_new f w e [a] 1 rfl (by omega)) ((Below.refl _ _).alloc (Nat.le_refl _) _))
end
theorem gives_xor64 {P : Program} {o : Oper} {ρ : Operand → Value} {w : World} {R : Value → World → Prop} {t t' : TypeId} {x y : Operand} {a b r : Int} (ho : o.op = .binOp .xor t x y t') (hx : ρ x = .int .u64 a) (hy : ρ y = .int .u64 b) (h : bits .xor .u64 a b = r) (hR : R (.int .u64 r) w) : Gives P o ρ w R := by
  refine gives_of (v := .int .u64 r) (w' := w) ?_ hR
  simp [execOp, ho, hx, hy, go_sem, h]
/-- x[i:k], x[i:] at a step of the walk, what it answers being known. -/
theorem wpList_sliced {P : Program} {w : World} {ops : Array Oper} {rest : List Oper} {o : Oper} {a : Act} {Q : Exit → Act → World → Prop} (hgd : o.guard = none) (t : TypeId) (x y z : Operand) (ho : o.op = .slice t x (some y) (some z) none)
    (v : Value) (hrun : (Instr.sliceAt t (a.eval x) (some (a.eval y)) (some (a.eval z)) none).run P w = .ok v w) (h : wpList P ops Q rest (a.put o.dst v) w) : wpList P ops Q (o :: rest) a w := by
  refine wpList_plain hgd fun K hK => ?_
  unfold Oper.wp execOp
  simp only [ho, Option.map_some, Option.map_none, hrun, Sem.run_bind, Sem.run_pure, Result.andThen_ok]
  exact hK _ _ h
theorem wpList_slicedL {P : Program} {w : World} {ops : Array Oper} {rest : List Oper} {o : Oper} {a : Act} {Q : Exit → Act → World → Prop} (hgd : o.guard = none) (t : TypeId) (x y : Operand) (ho : o.op = .slice t x (some y) none none)
    (v : Value) (hrun : (Instr.sliceAt t (a.eval x) (some (a.eval y)) none none).run P w = .ok v w) (h : wpList P ops Q rest (a.put o.dst v) w) : wpList P ops Q (o :: rest) a w := by
  refine wpList_plain hgd fun K hK => ?_
  unfold Oper.wp execOp
  simp only [ho, Option.map_some, Option.map_none, hrun, Sem.run_bind, Sem.run_pure, Result.andThen_ok]
  exact hK _ _ h
theorem gives_extract {P : Program} {o : Oper} {ρ : Operand → Value} {w : World} {R : Value → World → Prop} {x : Operand} {i : Nat} {vs : Array Value} {v : Value} (ho : o.op = .extract x i) (hx : ρ x = .tuple vs) (hv : vs[i]? = some v) (hR : R v w) : Gives P o ρ w R := by
  refine gives_of (v := v) (w' := w) ?_ hR
  simp [execOp, ho, hx, hv, go_sem]
end Go.Proofs.Ytocodcceimeiiaa
