
/- Operations of a region, one by one: what each yields. Over any program. -/

import Derived.Test.YtocodcceimeiiaaRegion

import Derived.Test.YtocodcceimeiiaaMem

import Derived.Test.YtocodcceimeiiaaRows

import Derived.WalkKit

import Derived.WalkLawsBesides

namespace Go.Proofs.Ytocodcceimeiiaa

open Go.RowKit

section

variable {P : Program} {o : Oper} {ρ : Operand → Value} {w w' : World} {R : Value → World → Prop}

theorem gives_of {v : Value} (h : (execOp ρ o).run P w = .ok (.value v) w') (hR : R v w') : Gives P o ρ w R := by
  unfold Gives; rw [h]; exact hR
theorem gives_move {x : Operand} {v : Value} (ho : o.op = .move x) (hx : ρ x = v) (hR : R v w) : Gives P o ρ w R := by
  refine gives_of (v := v) (w' := w) ?_ hR
  simp [execOp, ho, hx]
theorem gives_assign {x : Operand} {v : Value} (ho : o.op = .assign x) (hx : ρ x = v) (hR : R v w) : Gives P o ρ w R := by
  refine gives_of (v := v) (w' := w) ?_ hR
  simp [execOp, ho, hx]
theorem gives_convert {s d : TypeId} {x : Operand} {u v : Value} (ho : o.op = .convert s d x) (hx : ρ x = u) (h : (convert s d u).run P w = .ok v w') (hR : R v w') : Gives P o ρ w R := by
  refine gives_of (v := v) (w' := w') ?_ hR
  simp [execOp, ho, hx, h]
theorem gives_slice {t : TypeId} {x : Operand} {lo hi mx : Option Operand} {u v : Value} {lo' hi' mx' : Option Value} (ho : o.op = .slice t x lo hi mx) (hx : ρ x = u) (hlo : lo.map ρ = lo') (hhi : hi.map ρ = hi') (hmx : mx.map ρ = mx')
    (h : (Instr.sliceAt t u lo' hi' mx').run P w = .ok v w') (hR : R v w') : Gives P o ρ w R := by
  refine gives_of (v := v) (w' := w') ?_ hR
  simp [execOp, ho, hx, hlo, hhi, hmx, h]
/-- A call of a Go function, by its contract. -/
theorem gives_call {f : FuncId} {xs : Array Operand} {ts : Array TypeId} {args : Array Value} (ho : o.op = .call { callee := .value (.func f), args := xs, argTypes := ts })
    (hent : ∀ (args : Array Value) (w : World), (callFunc f args).run P w = .ok (.enter f args) w) (hf : ρ (.func f) = .func (.func f) #[] #[]) (ha : xs.map ρ = args)
    (h : Calls P f args w fun e w' => ∃ v, e = .returned v ∧ R v w') : Gives P o ρ w R := by
  have hr : (execOp ρ o).run P w = .ok (.enter f args) w := by
    simp [execOp, ho, resolve, hf, ha, Deferred.ofValue, invoke, hent]
  unfold Gives
  rw [hr]
  exact h
theorem gives_texteq {t t' : TypeId} {x y : Operand} {a b : List UInt8} (ho : o.op = .binOp .eql t x y t') (hx : ρ x = .string ⟨a.toArray⟩) (hy : ρ y = .string ⟨b.toArray⟩) (hR : R (.bool (a == b)) w) : Gives P o ρ w R := by
  refine gives_of (v := .bool (a == b)) (w' := w) ?_ hR
  simp [execOp, ho, hx, hy, go_sem, eqGuard]
theorem gives_textne {t t' : TypeId} {x y : Operand} {a b : List UInt8} (ho : o.op = .binOp .neq t x y t') (hx : ρ x = .string ⟨a.toArray⟩) (hy : ρ y = .string ⟨b.toArray⟩) (hR : R (.bool !(a == b)) w) : Gives P o ρ w R := by
  refine gives_of (v := .bool !(a == b)) (w' := w) ?_ hR
  simp [execOp, ho, hx, hy, go_sem, eqGuard]
theorem gives_inteq {t t' : TypeId} {k : IntKind} {x y : Operand} {a b : Int} (ho : o.op = .binOp .eql t x y t') (hx : ρ x = .int k a) (hy : ρ y = .int k b) (hR : R (.bool (a == b)) w) : Gives P o ρ w R := by
  refine gives_of (v := .bool (a == b)) (w' := w) ?_ hR
  simp [execOp, ho, hx, hy, go_sem, eqGuard]
theorem gives_intne {t t' : TypeId} {k : IntKind} {x y : Operand} {a b : Int} (ho : o.op = .binOp .neq t x y t') (hx : ρ x = .int k a) (hy : ρ y = .int k b) (hR : R (.bool (a != b)) w) : Gives P o ρ w R := by
  refine gives_of (v := .bool (a != b)) (w' := w) ?_ hR
  simp [execOp, ho, hx, hy, go_sem, eqGuard]
theorem gives_lt {t t' : TypeId} {k : IntKind} {x y : Operand} {a b : Int} (ho : o.op = .binOp .lss t x y t') (hx : ρ x = .int k a) (hy : ρ y = .int k b) (hR : R (.bool (decide (a < b))) w) : Gives P o ρ w R := by
  refine gives_of (v := .bool (decide (a < b))) (w' := w) ?_ hR
  simp [execOp, ho, hx, hy, go_sem, eqGuard]
theorem gives_pick_t {c x y : Operand} {v : Value} (ho : o.op = .pick c x y) (hc : ρ c = .bool true) (hx : ρ x = v) (hR : R v w) : Gives P o ρ w R := by
  refine gives_of (v := v) (w' := w) ?_ hR
  simp [execOp, ho, hc, hx, go_sem]
theorem gives_pick_f {c x y : Operand} {v : Value} (ho : o.op = .pick c x y) (hc : ρ c = .bool false) (hy : ρ y = v) (hR : R v w) : Gives P o ρ w R := by
  refine gives_of (v := v) (w' := w) ?_ hR
  simp [execOp, ho, hc, hy, go_sem]
theorem gives_len {x : Operand} {t e : TypeId} (ht : P.underlying t = some (.slice e)) {A : Option Addr} {n c : Nat} (ho : o.op = .call { callee := .builtin .len, args := #[x], argTypes := #[t] }) (hx : ρ x = .slice A n c) (hR : R (.int .i64 (n : Int)) w) : Gives P o ρ w R := by
  refine gives_of (v := .int .i64 (n : Int)) (w' := w) ?_ hR
  simp [execOp, ho, hx, resolve, invoke, go_sem, Builtin.len_, builtin, Builtin.lenOf, run_underlying ht]
theorem gives_sub {t t' : TypeId} {x y : Operand} {a b : Int} (ho : o.op = .binOp .sub t x y t') (hx : ρ x = .int .i64 a) (hy : ρ y = .int .i64 b) (h0 : -9223372036854775808 ≤ a - b) (h1 : a - b ≤ 9223372036854775807) (hR : R (.int .i64 (a - b)) w) : Gives P o ρ w R := by
  refine gives_of (v := .int .i64 (a - b)) (w' := w) ?_ hR
  have hw : IntKind.i64.wrap (a - b) = a - b := IntWalk.i64_in _ (by omega)
  simp [execOp, ho, hx, hy, go_sem, hw]
theorem Elem.size_ {t e : TypeId} {bytes : Nat} {z : Value} (E : Elem P t e bytes z) (w : World) : (sizeOf e).run P w = .ok 1 w := by
  obtain ⟨i, h1, _, h3, _⟩ := E.info
  simp [sizeOf, typeInfo, h1, h3]
/-- x[:h] of a slice. -/
theorem gives_upto {t e : TypeId} {bytes : Nat} {z : Value} (E : Elem P t e bytes z) {x y : Operand} {A : Option Addr} {n c h : Nat} (ho : o.op = .slice t x none (some y) none) (hx : ρ x = .slice A n c) (hy : ρ y = .int .i64 (h : Int)) (hc : h ≤ c)
    (hR : R (.slice A h c) w) : Gives P o ρ w R := by
  refine gives_slice ho hx (lo' := none) rfl (hi' := some (.int .i64 (h : Int))) (by simp [hy]) (mx' := none) rfl (v := .slice A h c) (w' := w) ?_ hR
  have ht := E.under
  have he : P.elem t = e := by simp [Program.elem, ht]
  rw [run_sliceAt_slice w t _ _ _ _ (by rw [he]; exact ht), run_slice_h w t A n c (by rw [he]; exact ht) .i64 (h : Int) (by omega) (by omega), he, E.size_]
  simp [sliced]
  intro _
  cases A <;> simp [Addr.add]
theorem gives_add {t t' : TypeId} {x y : Operand} {a b : Int} (ho : o.op = .binOp .add t x y t') (hx : ρ x = .int .i64 a) (hy : ρ y = .int .i64 b) (h0 : -9223372036854775808 ≤ a + b) (h1 : a + b ≤ 9223372036854775807) (hR : R (.int .i64 (a + b)) w) : Gives P o ρ w R := by
  refine gives_of (v := .int .i64 (a + b)) (w' := w) ?_ hR
  have hw : IntKind.i64.wrap (a + b) = a + b := IntWalk.i64_in _ (by omega)
  simp [execOp, ho, hx, hy, go_sem, hw]
end

/-- What is known of a value, and stays known in later worlds. -/
structure Fact where
  holds : Value → World → Prop
  stays : ∀ v w w', holds v w → Below w.heap.size w w' → holds v w'
def Fact.any : Fact := ⟨fun _ _ => True, fun _ _ _ _ _ => trivial⟩
def Fact.is (u : Value) : Fact := ⟨fun v _ => v = u, fun _ _ _ h _ => h⟩
/-- A slice that holds bytes. -/
def IsB (l : List UInt8) (v : Value) (w : World) : Prop := ∃ A c, v = .slice A l.length c ∧ (A = none → l.length = 0) ∧ l.length ≤ c ∧ c ≤ maxLen ∧ Lies w A (l.map bv)
theorem IsB.below {l : List UInt8} {v : Value} {w w' : World} (h : IsB l v w) (hb : Below w.heap.size w w') : IsB l v w' := by
  obtain ⟨A, c, h1, h2, h3, h4, h5⟩ := h
  exact ⟨A, c, h1, h2, h3, h4, h5.below hb⟩
def Fact.bytes (l : List UInt8) : Fact := ⟨IsB l, fun _ _ _ h hb => h.below hb⟩
def facts (L : List Fact) (i : Nat) : Value → World → Prop := (L.getD i Fact.any).holds

theorem RetB.isB {w w' : World} {l : List UInt8} {e : Ending} (h : RetB w l e w') : ∃ v, e = .returned v ∧ IsB l v w' ∧ Below w.heap.size w w' := by
  obtain ⟨A, c, h1, h2, h3, h4, h5, h6⟩ := h
  exact ⟨_, h1, ⟨A, c, rfl, h2, h3, h4, h5⟩, h6⟩

theorem IsB.text {P : Program} {w : World} {l : List UInt8} {v : Value} (h : IsB l v w) (src e dst : TypeId) (hs : P.underlying src = some (.slice e)) (he : P.underlying e = some (.int .u8)) (hd : P.underlying dst = some .string) :
    (convert src dst v).run P w = .ok (.string ⟨l.toArray⟩) w := by
  obtain ⟨A, c, rfl, _, _, _, h5⟩ := h
  exact run_text w src e dst hs he hd A _ c l rfl h5
theorem IsB.ret {w w' : World} {l : List UInt8} {v : Value} (h : IsB l v w') (hb : Below w.heap.size w w') : RetB w l (.returned v) w' := by
  obtain ⟨A, c, rfl, h2, h3, h4, h5⟩ := h
  exact ⟨A, c, rfl, h2, h3, h4, h5, hb⟩

/-- The frame behind a region: each operation's value at its place, in the order of the text. -/
def putAll (vs : Nat → Value) : List (Option Tmp) → Nat → Act → Act
  | [], _, a => a
  | d :: r, i, a => putAll vs r (i + 1) (a.put d (vs i))
theorem putAll_snoc (vs : Nat → Value) (d : Option Tmp) : ∀ (l : List (Option Tmp)) (i : Nat) (a : Act), putAll vs (l ++ [d]) i a = (putAll vs l i a).put d (vs (i + l.length)) := by
  intro l
  induction l with
  | nil => intro i a; rfl
  | cons x l ih => intro i a; show putAll vs (l ++ [d]) (i + 1) (a.put x (vs i)) = _; rw [ih]; simp only [putAll, List.length_cons]; congr 2; omega
theorem puts_some (ops : Array Oper) (vs : Nat → Value) (a : Act) : ∀ n, n ≤ ops.size → puts ops (fun _ => true) vs n a = putAll vs ((ops.toList.take n).map (·.dst)) 0 a := by
    intro n
    induction n with
    | zero => intro _; rfl
    | succ n ih =>
      intro hn
      have hlt : n < ops.toList.length := by simp; omega
      rw [puts, if_pos rfl, ih (by omega), List.take_succ_eq_append_getElem hlt, List.map_append, List.map_cons, List.map_nil, putAll_snoc]
      have h1 : rdst ops n = ops.toList[n].dst := by unfold rdst; rw [Array.getElem?_eq_getElem (by omega)]; simp
      have h2 : ((ops.toList.take n).map (·.dst)).length = n := by rw [List.length_map, List.length_take]; omega
      rw [h1, h2, Nat.zero_add]
theorem puts_all (ops : Array Oper) (vs : Nat → Value) (a : Act) : puts ops (fun _ => true) vs ops.size a = putAll vs (ops.toList.map (·.dst)) 0 a := by
  rw [puts_some ops vs a ops.size (Nat.le_refl _), List.take_of_length_le (by simp)]

theorem wpAny_region_list {P : Program} {ops : Array Oper} {Q : Exit → Act → World → Prop} {a0 : Act} {w0 : World} (L : List Fact) (ds : List (Option Tmp))
    (hok : regionOk ops a0.tmps.size = true) (hgd : guardsOk ops = true) (hds : ops.toList.map (·.dst) = ds) (hsteps : StepsFrom P ops (facts L) a0 w0 0 ops.toList)
    (hfin : ∀ (vs : Nat → Value) (w : World), Below w0.heap.size w0 w → (∀ i, i < ds.length → facts L i (vs i) w) → Q .normal (putAll vs ds 0 a0) w) :
    wpAny P .any ops Q ops.size (Array.replicate ops.size false) a0 { w0 with drawn := w0.drawn + 1 } :=
  wpAny_region_steps (facts L) hok hgd (fun i v w w' h hb => (L.getD i Fact.any).stays v w w' h hb) hsteps (fun vs w hb h => by
    subst hds
    rw [puts_all]
    exact hfin vs w hb fun i hi => h i (by simpa using hi))
theorem wp_region_list {P : Program} {ops : Array Oper} {Q : Exit → Act → World → Prop} {id : Nat} {a0 : Act} {w0 : World} (L : List Fact) (ds : List (Option Tmp)) (hm : P.follows .mixedOrders = true)
    (hok : regionOk ops a0.tmps.size = true) (hgd : guardsOk ops = true) (hds : ops.toList.map (·.dst) = ds) (hsteps : StepsFrom P ops (facts L) a0 w0 0 ops.toList)
    (hfin : ∀ (vs : Nat → Value) (w : World), Below w0.heap.size w0 w → (∀ i, i < ds.length → facts L i (vs i) w) → Q .normal (putAll vs ds 0 a0) w) :
    (Code.region id ops true).wp P Q a0 w0 := wp_region_any hm (wpAny_region_list L ds hok hgd hds hsteps hfin)
/-- Such a region whose last operations, from the n-th on, are forced (an append to what the call owns, a store): these are walked. -/
theorem wpAny_region_list_tail {P : Program} {ops : Array Oper} {Q : Exit → Act → World → Prop} {a0 : Act} {w0 : World} (n : Nat) (L : List Fact) (ds : List (Option Tmp))
    (hok : regionOk ops a0.tmps.size = true) (hgd : guardsOk ops = true) (hfo : forcedB ops n = true) (hds : (ops.toList.take n).map (·.dst) = ds) (hsteps : StepsFrom P ops (facts L) a0 w0 0 (ops.toList.take n))
    (hfin : ∀ (vs : Nat → Value) (w : World), Below w0.heap.size w0 w → (∀ i, i < ds.length → facts L i (vs i) w) → wpList P ops Q (ops.toList.drop n) (putAll vs ds 0 a0) w) :
    wpAny P .any ops Q ops.size (Array.replicate ops.size false) a0 { w0 with drawn := w0.drawn + 1 } := by
  have hn : n < ops.size := by
    have h := hfo
    unfold forcedB at h
    simp only [Bool.and_eq_true, decide_eq_true_eq] at h
    exact h.1.1.1
  refine wpAny_region_tail n (facts L) hok hgd hfo (fun i v w w' h hb => (L.getD i Fact.any).stays v w w' h hb) hsteps (fun vs w hb h => ?_)
  subst hds
  rw [puts_some ops vs a0 n (by omega)]
  exact hfin vs w hb fun i hi => h i (by rw [List.length_map, List.length_take] at hi; omega)
theorem wp_region_list_tail {P : Program} {ops : Array Oper} {Q : Exit → Act → World → Prop} {id : Nat} {a0 : Act} {w0 : World} (n : Nat) (L : List Fact) (ds : List (Option Tmp)) (hm : P.follows .mixedOrders = true)
    (hok : regionOk ops a0.tmps.size = true) (hgd : guardsOk ops = true) (hfo : forcedB ops n = true) (hds : (ops.toList.take n).map (·.dst) = ds) (hsteps : StepsFrom P ops (facts L) a0 w0 0 (ops.toList.take n))
    (hfin : ∀ (vs : Nat → Value) (w : World), Below w0.heap.size w0 w → (∀ i, i < ds.length → facts L i (vs i) w) → wpList P ops Q (ops.toList.drop n) (putAll vs ds 0 a0) w) :
    (Code.region id ops true).wp P Q a0 w0 := wp_region_any hm (wpAny_region_list_tail n L ds hok hgd hfo hds hsteps hfin)
end Go.Proofs.Ytocodcceimeiiaa
