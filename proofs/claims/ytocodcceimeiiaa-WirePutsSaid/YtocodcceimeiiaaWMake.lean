
/- Rows of structs made whole (make), copied (copy), stored into at an index; a struct's block laid and stored in a region that draws. Over any program. -/

import Derived.Test.YtocodcceimeiiaaWRow

import Derived.Test.YtocodcceimeiiaaRegR

import Derived.Test.YtocodcceimeiiaaArr

import Derived.Test.YtocodcceimeiiaaNum

import Derived.Deep.RegionLaw

namespace Go.Proofs.Ytocodcceimeiiaa

open Go.RowKit

theorem flat_replicate {α : Type} {f : α → List Value} (n : Nat) (x : α) : (List.replicate n x).flatMap f = (List.replicate n (f x)).flatten := by
  rw [List.flatMap_def, List.map_replicate]
theorem made_cells (cs : List Value) (_hm : 0 < cs.length) (n : Nat) : (madeCells cs.toArray (n * cs.length)).toList = (List.replicate n cs).flatten := by
  induction n with
  | zero => simp [madeCells]
  | succ n ih =>
    have hs : (madeCells cs.toArray ((n + 1) * cs.length)).toList = (madeCells cs.toArray (n * cs.length)).toList ++ cs := by
      apply List.ext_getElem
      · simp [madeCells, Nat.succ_mul]
      · intro i h1 h2
        have hl : (madeCells cs.toArray (n * cs.length)).toList.length = n * cs.length := by simp [madeCells]
        have hi : i < (n + 1) * cs.length := by simpa [madeCells] using h1
        by_cases h : i < n * cs.length
        · rw [List.getElem_append_left (by rw [hl]; exact h)]
          simp [madeCells]
        · rw [List.getElem_append_right (by rw [hl]; omega)]
          simp only [hl]
          have hi2 : i - n * cs.length < cs.length := by rw [Nat.succ_mul] at hi; omega
          have hmod : i % cs.length = i - n * cs.length := by
            have e : i = (i - n * cs.length) + cs.length * n := by rw [Nat.mul_comm cs.length n]; omega
            conv => lhs; rw [e, Nat.add_mul_mod_self_left, Nat.mod_eq_of_lt hi2]
          simp [madeCells, hmod, hi2]
    rw [hs, ih, List.replicate_succ']
    simp
theorem wpList_makeW {P : Program} {w : World} {ops : Array Oper} {rest : List Oper} {o : Oper} {a : Act} {Q : Exit → Act → World → Prop} {t e : TypeId} {bytes m : Nat} {z : Value} (E : ElemW P t e bytes m z) (zc : List Value) (hzc : z.cells.toList = zc)
    (hgd : o.guard = none) (l c : Operand) (hop : o.op = Op.makeSlice t l c) (kl kc : IntKind) (L C : Int) (n : Nat) (w0 : World) (B : Nat)
    (hl : a.eval l = .int kl L) (hc : a.eval c = .int kc C) (hL : L = (n : Int)) (hC : C = (n : Int)) (hn : n ≤ 1000000000) (hby : bytes ≤ 100) (hb : Below B w0 w) (hB : B ≤ w.heap.size)
    (h : ∀ w', Row w' w.heap.size e (List.replicate n zc).flatten → Below B w0 w' → wpList P ops Q rest (a.put o.dst (.slice (some ⟨w.heap.size, 0, none⟩) n n)) w') :
    wpList P ops Q (o :: rest) a w := by
  subst hzc
  obtain ⟨i, h1, h2, h3, h4⟩ := E.info
  refine wpList_plain hgd fun K hK => ?_
  have hle : bytes * n ≤ 100 * n := Nat.mul_le_mul_right _ hby
  have hbi : (i.bytes : Int) * (n : Int) ≤ 281474976710656 := by
    rw [h4, ← Int.natCast_mul]; omega
  have hrun := run_make (P := P) w t e i z E.under h1 h2 kl kc n n (by omega) (by omega) hbi (by omega)
  subst hL
  subst hC
  unfold Oper.wp
  simp only [execOp, hop, hl, hc, hrun, Result.andThen_ok, Sem.run_bind, Sem.run_pure]
  simp only [Int.toNat_natCast, h3]
  refine hK _ _ (h _ ?_ (hb.alloc hB _))
  unfold Row
  rw [heap_alloc_new]
  congr 2
  rw [← Array.toList_inj]
  have hlen : z.cells.toList.length = m := by rw [Array.length_toList]; exact E.cells
  have hz : z.cells = z.cells.toList.toArray := by simp
  have hm := made_cells z.cells.toList (by rw [hlen]; exact E.pos) n
  rw [hlen] at hm
  rw [List.toList_toArray, ← hm]
/-- What a copy of structs leaves, of a row of the call's own. -/
theorem runW_copy_row {P : Program} (w : World) (dT sT ty elem : TypeId) (m : Nat) (g o dLen dCap : Nat) (a : Addr) (sLen sCap : Nat) (cur : Array Value) (t : TypeId) (cs : List Value)
    (hu : P.underlying dT = some (.slice elem)) (hs : (P.info? elem).map (·.size) = some m)
    (hg : w.heap[g]? = some (.cells cur t (0, 0))) (hn : cs.length = Nat.min sLen dLen * m)
    (hsrc : ∀ j v, cs[j]? = some v → w.cell? (a.add j) = some v) (hfit : o + cs.length ≤ cur.size) (h1 : ∀ v ∈ cs, v.oneCell' = true) :
    (Builtin.copy_ #[dT, sT] ty #[.slice (some ⟨g, o, none⟩) dLen dCap, .slice (some a) sLen sCap]).run P w =
      .ok (goInt (Nat.min sLen dLen)) (w.setRow g (cur.toList.take o ++ cs ++ cur.toList.drop (o + cs.length)).toArray) := by
  have hl := run_loadCells_list (P := P) w a cs hsrc
  have hst := run_storeCells_at P g o t cs 0 cur w hg (by simpa using hfit) h1
  cases hq : P.info? elem with
  | none => simp [hq] at hs
  | some i =>
    have hi : i.size = m := by simpa [hq] using hs
    simp [Builtin.copy_, run_underlying hu, Builtin.lenOf, Builtin.firstCells, sizeOf, typeInfo, hq, hi, ← hn, hl, hst]
/-- The same at a call of the walk. -/
theorem wpList_copyW {P : Program} {w : World} {ops : Array Oper} {rest : List Oper} {o : Oper} {a : Act} {Q : Exit → Act → World → Prop} {t e : TypeId} {bytes m : Nat} {z : Value} (E : ElemW P t e bytes m z)
    (hgd : o.guard = none) (d s : Operand) (ho : o.op = .call { callee := .builtin .copy, args := #[d, s], argTypes := #[t, t] })
    (g off dLen dCap : Nat) (ad : Addr) (sLen sCap : Nat) (cur src new : List Value) (hnew : cur.take off ++ src ++ cur.drop (off + src.length) = new) (k B : Nat) (w0 : World)
    (hd : a.eval d = .slice (some ⟨g, off, none⟩) dLen dCap) (hs : a.eval s = .slice (some ad) sLen sCap) (hr : Row w g e cur) (hk : Nat.min sLen dLen = k) (hm : src.length = k * m)
    (hl : ∀ j v, src[j]? = some v → w.cell? (ad.add j) = some v) (h1 : ∀ u ∈ src, u.oneCell' = true)
    (hfit : off + src.length ≤ cur.length) (hb : Below B w0 w) (hB : B ≤ g)
    (h : ∀ w', Row w' g e new → Below B w0 w' → wpList P ops Q rest (a.put o.dst (goInt k)) w') :
    wpList P ops Q (o :: rest) a w := by
  subst hnew
  obtain ⟨i, h2, h3, h4, h5⟩ := E.info
  refine wpList_plain hgd fun K hK => ?_
  have hrun := runW_copy_row (P := P) w t t o.type e m g off dLen dCap ad sLen sCap cur.toArray e src E.under (by rw [h2]; simp [h4]) hr (by rw [hk]; exact hm) hl (by simpa using hfit) h1
  rw [hk] at hrun
  unfold Oper.wp
  simp [execOp, ho, resolve, invoke, builtin, hd, hs, hrun, Result.andThen]
  exact hK _ _ (h _ (by unfold Row; rw [show cur.take off ++ src ++ cur.drop (off + src.length) = cur.take off ++ (src ++ cur.drop (off + src.length)) by simp]; simpa using setRow_heap w g _ _ e _ hr) (below_setRow hb hB _))
/-- A struct stored into a row. -/
theorem wpList_storeW {P : Program} {w : World} {ops : Array Oper} {rest : List Oper} {o : Oper} {a : Act} {Q : Exit → Act → World → Prop} (hgd : o.guard = none) (t : TypeId) (x y : Operand) (ho : o.op = .store t x y)
    (g off : Nat) (t' : TypeId) (cur cs new : List Value) (hnew : cur.take off ++ cs ++ cur.drop (off + cs.length) = new) (hx : a.eval x = .pointer (some ⟨g, off, none⟩)) (hy : a.eval y = .agg cs.toArray) (hr : Row w g t' cur) (hi : (P.info? t).map (·.size) = some cs.length)
    (hfit : off + cs.length ≤ cur.length) (h1 : ∀ u ∈ cs, u.oneCell' = true) (w0 : World) (B : Nat) (hb : Below B w0 w) (hB : B ≤ g)
    (h : ∀ w', Row w' g t' new → Below B w0 w' → (∀ k ty l, k ≠ g → Row w k ty l → Row w' k ty l) → wpList P ops Q rest (a.put o.dst undef) w') : wpList P ops Q (o :: rest) a w := by
  subst hnew
  have hst := run_storeCells_at P g off t' cs 0 cur.toArray w hr (by simpa using hfit) h1
  have hrun : (storeVar t ⟨g, off, none⟩ (.agg cs.toArray)).run P w = .ok () (w.setRow g (cur.take off ++ cs ++ cur.drop (off + cs.length)).toArray) := by
    cases hq : P.info? t with
    | none => simp [hq] at hi
    | some i =>
      have hs : cs.length = i.size := by simp [hq] at hi; omega
      have hst2 : (storeCells ⟨g, off, none⟩ cs).run P w = .ok () (w.setRow g (cur.take off ++ cs ++ cur.drop (off + cs.length)).toArray) := by simpa using hst
      simp [storeVar, sizeOf, typeInfo, hq, Value.cells, hs]
      rw [← hs]
      simpa using hst2
  refine wpList_plain hgd fun K hK => ?_
  unfold Oper.wp execOp
  simp only [ho, hx, hy, Instr.storeAt, Instr.sureAddr, Sem.run_bind, Sem.run_pure, Result.andThen_ok, hrun]
  refine hK _ _ (h _ (setRow_heap w g cur.toArray _ t' (0, 0) hr) (below_setRow hb hB _) ?_)
  intro k ty l hk hrk
  exact (setRow_other w g k _ hk).trans hrk
section

variable {P : Program} {o : Oper} {ρ : Operand → Value} {w : World} {R : Value → World → Prop}
/-- copy of structs into a row, as one operation. -/
theorem gives_copyW {t e : TypeId} {bytes m : Nat} {z : Value} (E : ElemW P t e bytes m z) {d s : Operand} (ho : o.op = .call { callee := .builtin .copy, args := #[d, s], argTypes := #[t, t] })
    {g off dLen dCap : Nat} {ad : Addr} {sLen sCap : Nat} {cur src : List Value} {k : Nat}
    (hd : ρ d = .slice (some ⟨g, off, none⟩) dLen dCap) (hs : ρ s = .slice (some ad) sLen sCap) (hr : Row w g e cur) (hk : Nat.min sLen dLen = k) (hm : src.length = k * m)
    (hl : ∀ j v, src[j]? = some v → w.cell? (ad.add j) = some v) (h1 : ∀ u ∈ src, u.oneCell' = true) (hfit : off + src.length ≤ cur.length)
    (hR : R (goInt k) (w.setRow g (cur.take off ++ src ++ cur.drop (off + src.length)).toArray)) : Gives P o ρ w R := by
  obtain ⟨i, h2, h3, h4, h5⟩ := E.info
  have hrun := runW_copy_row (P := P) w t t o.type e m g off dLen dCap ad sLen sCap cur.toArray e src E.under (by rw [h2]; simp [h4]) hr (by rw [hk]; exact hm) hl (by simpa using hfit) h1
  rw [hk] at hrun
  refine gives_of (v := goInt k) ?_ hR
  simp [execOp, ho, resolve, invoke, builtin, hd, hs, hrun, Result.andThen]
/-- A variable of a struct's type laid. -/
theorem gives_alloc {t : TypeId} {z : Value} {i : TypeInfo} (hi : P.info? t = some i) (hz : i.zero = some z) (ho : o.op = .alloc t) (hR : R (.pointer (some ⟨w.heap.size, 0, none⟩)) (w.alloc (.cells z.cells t))) : Gives P o ρ w R := by
  refine gives_of (v := .pointer (some ⟨w.heap.size, 0, none⟩)) (w' := w.alloc (.cells z.cells t)) ?_ hR
  have hz2 : (zeroValue t).run P w = .ok z w := by simp [zeroValue, typeInfo, hi, hz]
  unfold execOp
  simp only [ho, Instr.alloc, newVar, newRow, Sem.run_bind, Sem.run_pure, hz2, Result.andThen_ok, run_newObj]
  rfl
/-- The whole of a struct stored. -/
theorem gives_store_row {t t' : TypeId} {x y : Operand} {g : Nat} {old cs : List Value} (ho : o.op = .store t x y) (hx : ρ x = .pointer (some ⟨g, 0, none⟩)) (hy : ρ y = .agg cs.toArray) (hr : Row w g t' old)
    (hi : (P.info? t).map (·.size) = some cs.length) (hl : old.length = cs.length) (h1 : ∀ u ∈ cs, u.oneCell' = true) (hR : R undef (w.setRow g cs.toArray)) : Gives P o ρ w R := by
  have hrun := run_storeVar_row (P := P) w g t' t old.toArray cs.toArray hr (by simpa using hi) (by simp [hl]) (by simpa using h1)
  have h : (execOp ρ o).run P w = .ok .skip (w.setRow g cs.toArray) := by
    unfold execOp
    simp only [ho, hx, hy, Instr.storeAt, Instr.sureAddr, Sem.run_bind, Sem.run_pure, Result.andThen_ok, hrun]
  unfold Gives
  rw [h]
  exact hR
end
theorem rowAll_set {w : World} {g : Nat} {t : TypeId} {old cs : List Value} (h : Row w g t old) : Row (w.setRow g cs.toArray) g t cs := setRow_heap w g old.toArray cs.toArray t (0, 0) h
theorem rowAll_far {w : World} {g k : Nat} {t : TypeId} {l : List Value} {cs : Array Value} (hk : k ≠ g) (h : Row w k t l) : Row (w.setRow g cs) k t l := (setRow_other w g k cs hk).trans h
/-- A row made later lasts where block g alone changes. -/
theorem own_past {w w' : World} {base s n g : Nat} {e : TypeId} {v : Value} {xs : List Value} (h : w.ownsRow base e s v n xs) (hg : w.grownBy w' (some g)) (hlt : g < base) : w'.ownsRow base e s v n xs := by
  refine h.kept hg ?_
  rcases h.2 with ⟨rfl, _⟩ | ⟨g2, cap2, cur2, rfl, hge, _⟩
  · exact .inl rfl
  · refine .inr ?_
    simp only [Value.ownBlock, ne_eq, Option.some.injEq]
    omega
theorem grown_set (w : World) (g i : Nat) (v : Value) : w.grownBy (w.setCell ⟨g, i, none⟩ v) (some g) :=
  ⟨rfl, rfl, rfl, by rw [World.size_setCell]; exact Nat.le_refl _, fun k _ hne => Below.heap_setCell w _ v k (fun h => hne (by rw [h]))⟩
theorem isR_row {α : Type} {f : α → List Value} {l : List α} {w : World} {g : Nat} {t : TypeId} {m : Nat} (h : Row w g t (l.flatMap f)) (hl : l.length = m) (hm : m ≤ 1000000) : IsR f l (.slice (some ⟨g, 0, none⟩) m m) w := by
  refine ⟨some ⟨g, 0, none⟩, m, by rw [hl], fun h => by (cases h), by omega, by unfold maxLen; omega, ?_⟩
  have := h.lies 0
  rwa [List.drop_zero] at this
theorem flat_drop {α : Type} {f : α → List Value} {m : Nat} (hf : ∀ x, (f x).length = m) : ∀ (l : List α) (k : Nat), (l.drop k).flatMap f = (l.flatMap f).drop (k * m)
  | [], k => by simp
  | x :: l, 0 => by simp
  | x :: l, k + 1 => by
    rw [List.drop_succ_cons, List.flatMap_cons, flat_drop hf l k, Nat.succ_mul, List.drop_append, hf, show k * m + m - m = k * m by omega, List.drop_of_length_le (l := f x) (by rw [hf]; omega), List.nil_append]
theorem ElemW.size_ {P : Program} {t e : TypeId} {bytes m : Nat} {z : Value} (E : ElemW P t e bytes m z) (w : World) : (sizeOf e).run P w = .ok m w := by
  obtain ⟨i, h1, _, h3, _⟩ := E.info
  simp [sizeOf, typeInfo, h1, h3]
/-- x[k:] of a slice of structs, as one equation. -/
theorem fromR_named {P : Program} {α : Type} {f : α → List Value} {w : World} {t e : TypeId} {bytes m : Nat} {z : Value} (E : ElemW P t e bytes m z) (hf : ∀ x, (f x).length = m) {A : Option Addr} {n c k : Nat} {l : List α} (hk : k ≤ n) (hI : IsR f l (.slice A n c) w) :
    ∃ v, (∀ W, (Instr.sliceAt t (.slice A n c) (some (.int .i64 (k : Int))) none none).run P W = .ok v W) ∧ IsR f (l.drop k) v w := by
  obtain ⟨hxs, hA, hnc, hcm, hl⟩ := hI.parts
  have ht := E.under
  have he : P.elem t = e := by simp [Program.elem, ht]
  refine ⟨.slice (if c = k then A else A.map (·.add (k * m))) (n - k) (c - k), fun W => ?_, if c = k then A else A.map (·.add (k * m)), c - k, ?_, ?_, ?_, by omega, ?_⟩
  · rw [run_sliceAt_slice W t _ _ _ _ (by rw [he]; exact ht), run_slice_l W t A n c (by rw [he]; exact ht) .i64 (k : Int) (by omega) (by omega), he, E.size_]
    simp [sliced]
  · rw [List.length_drop, hxs]
  · intro hB
    have : A = none := by
      split at hB
      · exact hB
      · cases A with
        | none => rfl
        | some ad => simp at hB
    have := hA this
    rw [List.length_drop, hxs]
    omega
  · rw [List.length_drop, hxs]; omega
  · rw [flat_drop hf]
    have hp := E.pos
    have h1 := hl.drop (k := k * m) (cap := c * m) (by rw [flat_len hf, hxs]; exact Nat.mul_le_mul_right _ hnc)
    by_cases hc : c = k
    · subst hc; simpa using h1
    · rw [if_neg (fun h => hc (Nat.eq_of_mul_eq_mul_right hp h))] at h1
      rw [if_neg hc]; exact h1
/-- Old memory as it was; whatever block holds just these cells holds them on, and a block of their type stays one: for a region that lays a block and stores them. -/
def Keep (B : Nat) (T : TypeId) (cs : List Value) (w w' : World) : Prop := Below B w w' ∧ (∀ h, Row w h T cs → Row w' h T cs) ∧ (∀ h old, Row w h T old → old.length = cs.length → ∃ old', old'.length = cs.length ∧ Row w' h T old')
theorem keep_later (B : Nat) (T : TypeId) (cs : List Value) : Later (Keep B T cs) where
  refl := fun _ => ⟨Below.refl _ _, fun _ h => h, fun _ old h hl => ⟨old, hl, h⟩⟩
  trans := fun h1 h2 => ⟨h1.1.trans h2.1, fun k h => h2.2.1 k (h1.2.1 k h), fun k old h hl => (h1.2.2 k old h hl).elim fun o h => h2.2.2 k o h.2 h.1⟩
  draw := fun _ => ⟨⟨rfl, rfl, rfl, Nat.le_refl _, fun _ _ => rfl⟩, fun _ h => h, fun _ old h hl => ⟨old, hl, h⟩⟩
theorem Keep.of {B : Nat} {T : TypeId} {cs : List Value} {w w' : World} (hB : B ≤ w.heap.size) (h : Below w.heap.size w w') : Keep B T cs w w' :=
  ⟨h.mono hB, fun _ hr => hr.below h hr.lt, fun _ old hr hl => ⟨old, hl, hr.below h hr.lt⟩⟩
theorem Keep.self {B : Nat} {T : TypeId} {cs : List Value} (w : World) : Keep B T cs w w := (keep_later B T cs).refl w
theorem Keep.alloc {B : Nat} {T : TypeId} {cs : List Value} {w : World} (hB : B ≤ w.heap.size) (o : Obj) : Keep B T cs w (w.alloc o) := Keep.of hB ((Below.refl _ _).alloc (Nat.le_refl _) _)
theorem Keep.store {B : Nat} {T : TypeId} {cs old : List Value} {w : World} {g : Nat} (hB : B ≤ g) (hr : Row w g T old) : Keep B T cs w (w.setRow g cs.toArray) :=
  ⟨below_setRow (Below.refl _ _) hB _, fun k h => if hk : k = g then by subst hk; exact rowAll_set hr else rowAll_far hk h,
    fun k o h hl => if hk : k = g then by subst hk; exact ⟨cs, rfl, rowAll_set hr⟩ else ⟨o, hl, rowAll_far hk h⟩⟩
/-- The pointer to a variable that such a region lays. -/
def FactR.laid (B : Nat) (T : TypeId) (cs : List Value) : FactR (Keep B T cs) := FactR.of (fun v w => ∃ h old, v = .pointer (some ⟨h, 0, none⟩) ∧ B ≤ h ∧ old.length = cs.length ∧ Row w h T old)
  fun _ _ _ ⟨h, old, h1, h2, h3, h4⟩ hk => (hk.2.2 h old h4 h3).elim fun o ho => ⟨h, o, h1, h2, ho.1, ho.2⟩
/-- Operation p's pointer has what it is to have. -/
def FactR.stored (B : Nat) (T : TypeId) (cs : List Value) (p : Nat) : FactR (Keep B T cs) := ⟨fun vs _ w => ∃ h, vs p = .pointer (some ⟨h, 0, none⟩) ∧ B ≤ h ∧ Row w h T cs, [p],
  fun _ _ _ _ ⟨h, h1, h2, h3⟩ hk => ⟨h, h1, h2, hk.2.1 h h3⟩, fun _ _ _ _ hp ⟨h, h1, h2, h3⟩ => ⟨h, by rw [← hp p (by simp)]; exact h1, h2, h3⟩⟩
/-- All but block g as it was, and that holds either what it held or what it is to hold. -/
def Turn (B g : Nat) (T : TypeId) (cur new : List Value) (w w' : World) : Prop := Below B w w' ∧ (Row w g T cur → Row w' g T cur ∨ Row w' g T new) ∧ (Row w g T new → Row w' g T new)
theorem turn_later (B g : Nat) (T : TypeId) (cur new : List Value) : Later (Turn B g T cur new) where
  refl := fun _ => ⟨Below.refl _ _, .inl, id⟩
  trans := fun h1 h2 => ⟨h1.1.trans h2.1, fun h => (h1.2.1 h).elim (fun h => h2.2.1 h) (fun h => .inr (h2.2.2 h)), fun h => h2.2.2 (h1.2.2 h)⟩
  draw := fun _ => ⟨⟨rfl, rfl, rfl, Nat.le_refl _, fun _ _ => rfl⟩, .inl, id⟩
end Go.Proofs.Ytocodcceimeiiaa
