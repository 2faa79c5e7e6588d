
/- Structs in blocks of their own, and results that lie in cells. Over any program. -/

import Derived.Test.YtocodcceimeiiaaCom

import Derived.Laws.ResultCell

import Derived.Great.BuildSlice

namespace Go.Proofs.Ytocodcceimeiiaa

open Go.RowKit

/-- Two results: the first lies in a block (a struct), the second in a slot. -/
theorem results_row_tmp {P : Program} {fn : Func} {p u : Tmp} {ty : TypeId} (h : fn.results = #[.cell p ty, .tmp u]) (tmps : Array Value) (w : World) (g : Nat) (t : TypeId) (cs : Array Value) (fr : Nat × Nat) (d : TypeDesc) (v : Value)
    (hp : tmps.getD p undef = .pointer (some ⟨g, 0, none⟩)) (hg : w.heap[g]? = some (.cells cs t fr))
    (hu : P.underlying ty = some d) (hd : (match d with | .struct _ | .array _ _ => true | _ => false) = true) (hi : (P.info? ty).map (·.size) = some cs.size) (hv : tmps.getD u undef = v) :
    (results fn tmps).run P w = .ok (.tuple #[.agg cs, v]) w := by
  rw [results_cell_tmp h, hp, hv]
  simp [asAddr, Result.andThen, run_loadVar_row w g t ty cs fr d hg hu hd hi]
/-- Five results. -/
theorem results_tmp5 {fn : Func} {t u v x y : Tmp} (h : fn.results = #[.tmp t, .tmp u, .tmp v, .tmp x, .tmp y]) (tmps : Array Value) (P : Program) (w : World) :
    (results fn tmps).run P w = .ok (.tuple #[tmps.getD t undef, tmps.getD u undef, tmps.getD v undef, tmps.getD x undef, tmps.getD y undef]) w := by
  simp [results, h]
section

variable {P : Program} {o : Oper} {ρ : Operand → Value} {w : World} {R : Value → World → Prop}
/-- A load of one cell, of a value in many cells, and a slice literal of one value: as operations of a region. -/
theorem gives_load {t : TypeId} {x : Operand} {p : Addr} {v : Value} {d : TypeDesc} (ho : o.op = .load t x) (hx : ρ x = .pointer (some p)) (hu : P.underlying t = some d) (hd : (match d with | .struct _ | .array _ _ => true | _ => false) = false)
    (hc : w.cell? p = some v) (hR : R v w) : Gives P o ρ w R := by
  refine gives_of (v := v) (w' := w) ?_ hR
  have hl : (loadVar t p).run P w = .ok v w := by
    have ha : (isAgg t).run P w = .ok false w := by
      unfold isAgg
      rw [Sem.run_bind, run_underlying hu]
      cases d <;> first | rfl | cases hd
    simp [loadVar, ha, hc]
  simp [execOp, ho, hx, Instr.loadAt, Instr.sureAddr, hl]
theorem gives_load_row {t t' : TypeId} {x : Operand} {g : Nat} {cs : List Value} {d : TypeDesc} (ho : o.op = .load t x) (hx : ρ x = .pointer (some ⟨g, 0, none⟩)) (hu : P.underlying t = some d) (hd : (match d with | .struct _ | .array _ _ => true | _ => false) = true)
    (hi : (P.info? t).map (·.size) = some cs.length) (hr : Row w g t' cs) (hR : R (.agg cs.toArray) w) : Gives P o ρ w R := by
  refine gives_of (v := .agg cs.toArray) (w' := w) ?_ hR
  have hl := run_loadVar_row w g t' t cs.toArray (0, 0) d hr hu hd (by simpa using hi)
  simp [execOp, ho, hx, Instr.loadAt, Instr.sureAddr, hl]
theorem gives_one {t e : TypeId} {bytes : Nat} {z u : Value} (E : Elem P t e bytes z) {x : Operand} (ho : o.op = .buildSlice t 1 #[(0, x)]) (hx : ρ x = u) (hu : u.cells = #[u]) (hR : R (.slice (some ⟨w.heap.size, 0, none⟩) 1 1) (w.alloc (.cells #[u] e))) : Gives P o ρ w R := by
  obtain ⟨i, h1, h2, h3, h4⟩ := E.info
  refine gives_of (v := .slice (some ⟨w.heap.size, 0, none⟩) 1 1) (w' := w.alloc (.cells #[u] e)) ?_ hR
  have h5 : z.cells = #[z] := E.one
  have hf : Instr.fill (fun k => some (k * i.size, i.size)) ((Array.range (1 * i.size)).map (z.cells[· % z.cells.size]!)) [(0, u)] = some #[u] := by
    rw [h3, h5]
    have hr1 : Array.range 1 = #[0] := by rw [Array.range_succ]; rfl
    rw [Nat.one_mul, hr1]
    simp [Instr.fill, hu]
  have := run_buildSlice w t e 1 #[(0, u)] #[u] i z E.under h1 h2 (by rw [h3]; decide) (by rw [h3]; decide) hf
  simp [execOp, ho, hx, this]
/-- append([]T(nil), x...), of bytes: they lie in new memory. -/
theorem gives_copy {t e : TypeId} {z : Value} (E : Elem P t e 1 z) {s x : Operand} {l : List UInt8} {v : Value} (ho : o.op = .call { callee := .builtin .append, args := #[s, x], argTypes := #[t, t] }) (hs : ρ s = .slice none 0 0) (hx : ρ x = v) (hv : IsB l v w)
    (hl : l.length ≤ 1000000) (hR : ∀ v' w', IsB l v' w' → Below w.heap.size w w' → R v' w') : Gives P o ρ w R := by
  obtain ⟨A, c, rfl, h1, h2, h3, h4⟩ := hv
  obtain ⟨i, g1, g2, g3, g4⟩ := E.info
  have g5 : z.cells.size = 1 := by rw [E.one]; rfl
  obtain ⟨v', w', hrun, h5, h6, _⟩ := run_append_lies (P := P) w w.heap.size t o.type e i z 1 E.under g1 g2 g3 g4 g5 (.slice none 0 0) 0 [] (World.ownsRow_nil _ _ _ _) A l.length c h1 (l.map bv) (by simp) h4 (bv_one _) (by unfold maxLen; omega) (by omega) (Nat.le_refl _)
  refine gives_of (v := v') (w' := w') ?_ (hR v' w' (isB_own (by simpa using h5)) ((Below.refl _ w).grown h6 (Nat.le_refl _) fun k hk => by simp [Value.ownBlock] at hk))
  simp [execOp, ho, resolve, invoke, builtin, hs, hx, hrun]
/-- x[k] of a slice: the place. -/
theorem gives_index {t e : TypeId} {bytes : Nat} {zv : Value} (E : Elem P t e bytes zv) {x y : Operand} {ad : Addr} {n c k : Nat} (ho : o.op = .indexAddr t x y) (hx : ρ x = .slice (some ad) n c) (hy : ρ y = .int .i64 (k : Int)) (hk : k < n)
    (hR : R (.pointer (some (ad.add k))) w) : Gives P o ρ w R := by
  refine gives_of (v := .pointer (some (ad.add k))) (w' := w) ?_ hR
  have ht := E.under
  have hs := E.size_ w
  have h0 : (0 : Int) ≤ (k : Int) := by omega
  have h1 : (k : Int) < (n : Int) := by omega
  simp [execOp, ho, hx, hy, go_sem, ht, hs, h0, h1]
/-- x[k] of an array in a block of its own: the place. -/
theorem gives_index_arr {t e : TypeId} {n g k : Nat} {x y : Operand} (ht : P.underlying t = some (.array n e)) (hsz : ∀ W, (sizeOf e).run P W = .ok 1 W) (ho : o.op = .indexAddr t x y) (hx : ρ x = .pointer (some ⟨g, 0, none⟩)) (hy : ρ y = .int .i64 (k : Int)) (hk : k < n)
    (hR : R (.pointer (some ⟨g, k, none⟩)) w) : Gives P o ρ w R := by
  refine gives_of (v := .pointer (some ⟨g, k, none⟩)) (w' := w) ?_ hR
  have ha : (⟨g, 0, none⟩ : Addr).add k = ⟨g, k, none⟩ := by unfold Addr.add; split <;> simp_all
  have h := run_indexAt_array w t ⟨g, 0, none⟩ .i64 (k : Int) (by rw [ht]; simp [Program.arrayLen, Program.elem, ht])
  simp only [Program.arrayLen, Program.elem, ht] at h
  rw [if_pos ⟨by omega, by omega⟩] at h
  simp [execOp, ho, hx, hy, h, hsz, ha]
end

end Go.Proofs.Ytocodcceimeiiaa
