
/- Rows of the call's own whose values take up m cells each: append. Over any program. -/

import Derived.Test.YtocodcceimeiiaaWide

import Derived.Test.YtocodcceimeiiaaOwnV

namespace Go.Proofs.Ytocodcceimeiiaa

open Go.RowKit

/-- The facts on an element's type that appends ask: m cells, so many bytes. -/
structure ElemW (P : Program) (t e : TypeId) (bytes m : Nat) (z : Value) : Prop where
  under : P.underlying t = some (.slice e)
  cells : z.cells.size = m
  pos : 0 < m
  info : ∃ (i : TypeInfo), P.info? e = some i ∧ i.zero = some z ∧ i.size = m ∧ i.bytes = bytes
section

variable {P : Program} (w : World)
theorem runW_append_lies (base : Nat) (t ty e : TypeId) (i : TypeInfo) (z : Value) (size bytes : Nat) (ht : P.underlying t = some (.slice e)) (hi : P.info? e = some i) (hz : i.zero = some z)
    (hsize : i.size = size) (hby : i.bytes = bytes) (hzs : z.cells.size = size) (hsz : 0 < size)
    (v : Value) (n : Nat) (xs : List Value) (hown : w.ownsRow base e size v n xs) (A : Option Addr) (m c : Nat) (hA : A = none → m = 0) (news : List Value) (hm : news.length = m * size) (hr : Lies w A news) (h1 : ∀ u ∈ news, u.oneCell' = true)
    (h63 : n + m ≤ maxLen) (hbytes : (n + m) * bytes ≤ 140737488355328) (hbase : base ≤ w.heap.size) :
    ∃ v' w', (Builtin.append_ #[t, t] ty #[v, .slice A m c]).run P w = .ok v' w' ∧ w'.ownsRow base e size v' (n + m) (xs ++ news) ∧ w.grownBy w' v.ownBlock ∧
      (v'.ownBlock = v.ownBlock ∨ v'.ownBlock = some w.heap.size) := by
  rcases A with _ | ad
  · have hm0 := hA rfl
    subst hm0
    have hn : news = [] := List.eq_nil_of_length_eq_zero (by rw [hm, Nat.zero_mul])
    subst hn
    refine ⟨v, w, ?_, by simpa using hown, World.grownBy.refl w _, .inl rfl⟩
    rcases hown.2 with ⟨rfl, rfl⟩ | ⟨g, cap, cur, rfl, _, _, hnc, _⟩
    · simp [Builtin.append_, run_underlying ht, sizeOf, typeInfo, hi, Builtin.lenOf, Builtin.firstCells]
    · simp [Builtin.append_, run_underlying ht, sizeOf, typeInfo, hi, Builtin.lenOf, Builtin.firstCells, hnc, storeCells]
  · have hcells : ∀ j u, news[j]? = some u → w.cell? (ad.add j) = some u := by
      intro j u hu
      rcases hr with hr | ⟨ad', hA, _, hc⟩
      · rw [hr] at hu; simp at hu
      · injection hA with hA; subst hA; exact hc j u hu
    obtain ⟨v', w', hrun, h2, h3, _, h5⟩ := run_append_own_at (P := P) w base t ty e i z size bytes ht hi hz hsize hby hzs hsz v n xs hown ad m c news hm hcells h1 h63 hbytes hbase
    exact ⟨v', w', hrun, h2, h3, h5⟩
theorem wpListW_append {ops : Array Oper} {rest : List Oper} {o : Oper} {a : Act} {Q : Exit → Act → World → Prop} (hgd : o.guard = none) (s x : Operand) (t : TypeId)
    (ho : o.op = .call { callee := .builtin .append, args := #[s, x], argTypes := #[t, t] })
    (base : Nat) (e : TypeId) (i : TypeInfo) (z : Value) (size bytes : Nat) (ht : P.underlying t = some (.slice e)) (hi : P.info? e = some i) (hz : i.zero = some z)
    (hsize : i.size = size) (hby : i.bytes = bytes) (hzs : z.cells.size = size) (hsz : 0 < size)
    (v : Value) (n : Nat) (xs : List Value) (hs : a.eval s = v) (hown : w.ownsRow base e size v n xs) (A : Option Addr) (m c : Nat) (hx : a.eval x = .slice A m c) (hA : A = none → m = 0)
    (news : List Value) (hm : news.length = m * size) (hr : Lies w A news) (h1 : ∀ u ∈ news, u.oneCell' = true)
    (h63 : n + m ≤ maxLen) (hbytes : (n + m) * bytes ≤ 140737488355328) (hbase : base ≤ w.heap.size)
    (h : ∀ v' w', w'.ownsRow base e size v' (n + m) (xs ++ news) → w.grownBy w' v.ownBlock → (v'.ownBlock = v.ownBlock ∨ v'.ownBlock = some w.heap.size) → wpList P ops Q rest (a.put o.dst v') w') : wpList P ops Q (o :: rest) a w := by
  refine wpList_plain hgd fun K hK => ?_
  obtain ⟨v', w', hrun, h2, h3, h4⟩ := runW_append_lies (P := P) w base t o.type e i z size bytes ht hi hz hsize hby hzs hsz v n xs hown A m c hA news hm hr h1 h63 hbytes hbase
  unfold Oper.wp execOp
  simp only [ho, resolve, invoke, builtin, Sem.run_bind, Sem.run_pure, Result.andThen_ok, List.map_toArray, List.map_cons, List.map_nil, hs, hx, hrun]
  exact hK _ _ (h v' w' h2 h3 h4)
end
theorem ownW_lt {w : World} {base size n : Nat} {e : TypeId} {v : Value} {xs : List Value} (h : w.ownsRow base e size v n xs) {g : Nat} (hg : v.ownBlock = some g) : base ≤ g ∧ g < w.heap.size := by
  rcases h.2 with ⟨rfl, _⟩ | ⟨g', cap, cur, rfl, hb, hc, _⟩
  · simp [Value.ownBlock] at hg
  · simp [Value.ownBlock] at hg
    subst hg
    exact ⟨hb, (Array.getElem?_eq_some_iff.1 hc).1⟩
theorem belowW_append {w0 w w' : World} {base size : Nat} {e : TypeId} {v : Value} {n : Nat} {xs : List Value} (hb : Below base w0 w) (hown : w.ownsRow base e size v n xs) (hz : base ≤ w.heap.size) (hg : w.grownBy w' v.ownBlock) : Below base w0 w' :=
  hb.grown hg hz fun _ hk => (ownW_lt hown hk).1
theorem ownW_alloc {w : World} {base size n : Nat} {e : TypeId} {v : Value} {xs : List Value} (h : w.ownsRow base e size v n xs) (o : Obj) : (w.alloc o).ownsRow base e size v n xs :=
  own_below h ((Below.refl _ _).alloc (Nat.le_refl _) o)
theorem ownW_base {w : World} {base base' size n : Nat} {e : TypeId} {v : Value} {xs : List Value} (hb : base' ≤ base) (h : w.ownsRow base e size v n xs) : w.ownsRow base' e size v n xs :=
  ⟨h.1, h.2.imp id fun ⟨g, cap, cur, h1, h2, h3⟩ => ⟨g, cap, cur, h1, Nat.le_trans hb h2, h3⟩⟩
theorem cells_new (w : World) (cs : List Value) (t : TypeId) : Lies (w.alloc (.cells cs.toArray t)) (some ⟨w.heap.size, 0, none⟩) cs := by
  have h : Row (w.alloc (.cells cs.toArray t)) w.heap.size t cs := heap_alloc_new w _
  simpa using h.lies 0
/-- append of one value of m cells, at a call of the walk. -/
theorem wpList_pushW {P : Program} {W : World} {ops : Array Oper} {rest : List Oper} {o : Oper} {a : Act} {Q : Exit → Act → World → Prop} {t e : TypeId} {bytes m : Nat} {z : Value} (E : ElemW P t e bytes m z)
    (hgd : o.guard = none) (s x : Operand) (ho : o.op = .call { callee := .builtin .append, args := #[s, x], argTypes := #[t, t] })
    (base : Nat) (v : Value) (n : Nat) (xs cs : List Value) (w w0 : World) (hs : a.eval s = v) (hx : a.eval x = .slice (some ⟨w.heap.size, 0, none⟩) 1 1) (hW : W = w.alloc (.cells cs.toArray e)) (hm : cs.length = m)
    (hu : ∀ u ∈ cs, u.oneCell' = true) (hown : w.ownsRow base e m v n xs) (hb : Below base w0 w) (hbase : base ≤ w.heap.size) (hn : n ≤ 1000000000) (hby : bytes ≤ 100)
    (h : ∀ v' w', w'.ownsRow base e m v' (n + 1) (xs ++ cs) → Below base w0 w' → w.grownBy w' v.ownBlock → (v'.ownBlock = v.ownBlock ∨ v'.ownBlock = some (w.heap.size + 1)) → wpList P ops Q rest (a.put o.dst v') w') : wpList P ops Q (o :: rest) a W := by
  obtain ⟨i, h1, h2, h3, h4⟩ := E.info
  subst hW
  have hle : (n + 1) * bytes ≤ (n + 1) * 100 := Nat.mul_le_mul_left _ hby
  refine wpListW_append _ hgd s x t ho base e i z m bytes E.under h1 h2 h3 h4 E.cells E.pos v n xs hs (ownW_alloc hown _) _ _ _ hx (by simp) cs (by rw [hm, Nat.one_mul]) (cells_new w cs e) hu (by unfold maxLen; omega) (by omega) (by simp; omega) ?_
  intro v' w' hown' hg hq
  refine h v' w' hown' (belowW_append (hb.alloc hbase _) (ownW_alloc hown _) (by simp; omega) hg) ⟨hg.os, hg.tape, hg.output, Nat.le_trans (by simp) hg.size, fun k hk hne => (hg.block k (by simp; omega) hne).trans (Below.heap_alloc w _ k hk)⟩ (by simpa using hq)
/-- The same, where the new block's number stands as g. -/
theorem wpList_pushG {P : Program} {W : World} {ops : Array Oper} {rest : List Oper} {o : Oper} {a : Act} {Q : Exit → Act → World → Prop} {t e : TypeId} {bytes m : Nat} {z : Value} (E : ElemW P t e bytes m z)
    (hgd : o.guard = none) (s x : Operand) (ho : o.op = .call { callee := .builtin .append, args := #[s, x], argTypes := #[t, t] })
    (base : Nat) (v : Value) (n : Nat) (xs cs : List Value) (w w0 : World) (g : Nat) (hgs : g = w.heap.size) (hs : a.eval s = v) (hx : a.eval x = .slice (some ⟨g, 0, none⟩) 1 1) (hW : W = w.alloc (.cells cs.toArray e)) (hm : cs.length = m)
    (hu : ∀ u ∈ cs, u.oneCell' = true) (hown : w.ownsRow base e m v n xs) (hb : Below base w0 w) (hbase : base ≤ w.heap.size) (hn : n ≤ 1000000000) (hby : bytes ≤ 100)
    (h : ∀ v' w', w'.ownsRow base e m v' (n + 1) (xs ++ cs) → Below base w0 w' → w.grownBy w' v.ownBlock → (v'.ownBlock = v.ownBlock ∨ v'.ownBlock = some (w.heap.size + 1)) → wpList P ops Q rest (a.put o.dst v') w') : wpList P ops Q (o :: rest) a W := by
  subst hgs
  exact wpList_pushW E hgd s x ho base v n xs cs w w0 hs hx hW hm hu hown hb hbase hn hby h
/-- append of what lies somewhere, at a call of the walk. -/
theorem wpList_joinW {P : Program} {w : World} {ops : Array Oper} {rest : List Oper} {o : Oper} {a : Act} {Q : Exit → Act → World → Prop} {t e : TypeId} {bytes size : Nat} {z : Value} (E : ElemW P t e bytes size z)
    (hgd : o.guard = none) (s x : Operand) (ho : o.op = .call { callee := .builtin .append, args := #[s, x], argTypes := #[t, t] })
    (base : Nat) (v : Value) (n : Nat) (xs : List Value) (A : Option Addr) (m c : Nat) (news : List Value) (w0 : World) (hs : a.eval s = v) (hx : a.eval x = .slice A m c)
    (hA : A = none → m = 0) (hm : news.length = m * size) (hr : Lies w A news) (h1 : ∀ u ∈ news, u.oneCell' = true)
    (hown : w.ownsRow base e size v n xs) (hb : Below base w0 w) (hbase : base ≤ w.heap.size) (hn : n + m ≤ 1000000000) (hby : bytes ≤ 100)
    (h : ∀ v' w', w'.ownsRow base e size v' (n + m) (xs ++ news) → Below base w0 w' → w.grownBy w' v.ownBlock → (v'.ownBlock = v.ownBlock ∨ v'.ownBlock = some w.heap.size) → wpList P ops Q rest (a.put o.dst v') w') : wpList P ops Q (o :: rest) a w := by
  obtain ⟨i, h2, h3, h4, h5⟩ := E.info
  have hle : (n + m) * bytes ≤ (n + m) * 100 := Nat.mul_le_mul_left _ hby
  refine wpListW_append _ hgd s x t ho base e i z size bytes E.under h2 h3 h4 h5 E.cells E.pos v n xs hs hown A m c hx hA news hm hr h1 (by unfold maxLen; omega) (by omega) hbase ?_
  intro v' w' hown' hg hq
  exact h v' w' hown' (belowW_append hb hown hbase hg) hg hq
section

variable {α : Type} {f : α → List Value} {l : List α} {v : Value} {w w' : World} {m n : Nat}
/-- What the call owns holds so many values. -/
theorem isR_own {base : Nat} {e : TypeId} (hf : ∀ x, (f x).length = m) (hm : 0 < m) (h : w.ownsRow base e m v n (l.flatMap f)) : IsR f l v w := by
  have hl : l.length = n := by
    have h1 := h.1
    rw [flat_len hf] at h1
    exact Nat.eq_of_mul_eq_mul_right hm h1
  rcases h.2 with ⟨rfl, rfl⟩ | ⟨g, cap, cur, rfl, hb, hg, hnc, hcm, hcs, ht⟩
  · obtain rfl := List.eq_nil_of_length_eq_zero hl
    exact ⟨none, 0, rfl, by simp, by simp, by unfold maxLen; omega, Lies.nil⟩
  · exact ⟨_, cap, by rw [hl], by simp, by omega, hcm, .inr ⟨_, rfl, (Array.getElem?_eq_some_iff.1 hg).1, h.cells (g := g) rfl⟩⟩
theorem isR_nil (f : α → List Value) (w : World) : IsR f [] (.slice none 0 0) w := ⟨none, 0, rfl, by simp, by simp, by unfold maxLen; omega, Lies.nil⟩
theorem ownW_made (w : World) (e : TypeId) (m : Nat) : (w.alloc (.cells #[] e)).ownsRow w.heap.size e m (.slice (some ⟨w.heap.size, 0, none⟩) 0 0) 0 [] :=
  ⟨by simp, .inr ⟨w.heap.size, 0, #[], rfl, Nat.le_refl _, heap_alloc_new w _, Nat.le_refl _, by unfold maxLen; omega, by simp, by simp⟩⟩
/-- Of two rows of different element types the one lasts where the other one grows. -/
theorem own_otherW {base base' s1 s2 k : Nat} {e1 e2 : TypeId} {v1 v2 : Value} {xs ys : List Value} (h1 : w.ownsRow base e1 s1 v1 n xs) (h2 : w.ownsRow base' e2 s2 v2 k ys) (hne : e1 ≠ e2) (hg : w.grownBy w' v2.ownBlock) : w'.ownsRow base e1 s1 v1 n xs := by
  refine ⟨h1.1, h1.2.imp id fun ⟨g, cap, cur, hv, hb, hc, r⟩ => ⟨g, cap, cur, hv, hb, ?_, r⟩⟩
  have hlt := (Array.getElem?_eq_some_iff.1 hc).1
  refine (hg.block g hlt ?_).trans hc
  rcases h2.2 with ⟨rfl, _⟩ | ⟨g2, cap2, cur2, rfl, _, hc2, _⟩
  · simp [Value.ownBlock]
  · intro he
    simp [Value.ownBlock] at he
    subst he
    rw [hc] at hc2
    injection hc2 with hc2
    injection hc2 with _ h3
    exact hne h3
theorem flat_snoc (l : List α) (x : α) : (l ++ [x]).flatMap f = l.flatMap f ++ f x := by simp
end
theorem OwnV.other {α : Type} {f : α → Value} {e e2 : TypeId} {w w1 w2 : World} {l : List α} {v y : Value} {B k s : Nat} {ys : List Value} (h : OwnV f e w l v w1) (hy : w1.ownsRow B e2 s y k ys) (hne : e ≠ e2) (hg : w1.grownBy w2 y.ownBlock) : OwnV f e w l v w2 := h.elim fun _ h => ⟨_, own_otherW h hy hne hg⟩
end Go.Proofs.Ytocodcceimeiiaa
