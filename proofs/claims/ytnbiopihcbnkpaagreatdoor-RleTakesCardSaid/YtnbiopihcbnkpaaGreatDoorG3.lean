/- Texts that the claims of this seat share, part 3: WMake TRPut ERTake PRef TRTake UMore UBd URef. -/
import Derived.Deep.RegionLaw
import Derived.Laws.OwnMore
import Derived.Test.YtnbiopihcbnkpaaGreatDoorG2
/- Rows of structs made whole (make), copied (copy), stored into at an index; a struct's block laid and stored in a region that draws. Over any program. -/











namespace Go.Proofs.YtnbiopihcbnkpaaGreatDoor

open Go.RowKit

theorem flat_replicate {α : Type} {f : α → List Value} (n : Nat) (x : α) : (List.replicate n x).flatMap f = (List.replicate n (f x)).flatten := by
  rw [List.flatMap_def, List.map_replicate]
theorem made_cells (cs : List Value) (_hm : 0 < cs.length) (n : Nat) : (madeCells cs.toArray (n * cs.length)).toList = (List.replicate n cs).flatten := by
  induction n with
  | zero => simp [madeCells]
  | succ n ih =>
    have hs : (madeCells cs.toArray ((n + 1) * cs.length)).toList = (madeCells cs.toArray (n * cs.length)).toList ++ cs := by
      apply List.ext_getElem
      · simp [madeCells, Nat.succ_mul]
      · intro i h1 h2
        have hl : (madeCells cs.toArray (n * cs.length)).toList.length = n * cs.length := by simp [madeCells]
        have hi : i < (n + 1) * cs.length := by simpa [madeCells] using h1
        by_cases h : i < n * cs.length
        · rw [List.getElem_append_left (by rw [hl]; exact h)]
          simp [madeCells]
        · rw [List.getElem_append_right (by rw [hl]; omega)]
          simp only [hl]
          have hi2 : i - n * cs.length < cs.length := by rw [Nat.succ_mul] at hi; omega
          have hmod : i % cs.length = i - n * cs.length := by
            have e : i = (i - n * cs.length) + cs.length * n := by rw [Nat.mul_comm cs.length n]; omega
            conv => lhs; rw [e, Nat.add_mul_mod_self_left, Nat.mod_eq_of_lt hi2]
          simp [madeCells, hmod, hi2]
    rw [hs, ih, List.replicate_succ']
    simp
theorem wpList_makeW {P : Program} {w : World} {ops : Array Oper} {rest : List Oper} {o : Oper} {a : Act} {Q : Exit → Act → World → Prop} {t e : TypeId} {bytes m : Nat} {z : Value} (E : ElemW P t e bytes m z) (zc : List Value) (hzc : z.cells.toList = zc)
    (hgd : o.guard = none) (l c : Operand) (hop : o.op = Op.makeSlice t l c) (kl kc : IntKind) (L C : Int) (n : Nat) (w0 : World) (B : Nat)
    (hl : a.eval l = .int kl L) (hc : a.eval c = .int kc C) (hL : L = (n : Int)) (hC : C = (n : Int)) (hn : n ≤ 1000000000) (hby : bytes ≤ 100) (hb : Below B w0 w) (hB : B ≤ w.heap.size)
    (h : ∀ w', Row w' w.heap.size e (List.replicate n zc).flatten → Below B w0 w' → wpList P ops Q rest (a.put o.dst (.slice (some ⟨w.heap.size, 0, none⟩) n n)) w') :
    wpList P ops Q (o :: rest) a w := by
  subst hzc
  obtain ⟨i, h1, h2, h3, h4⟩ := E.info
  refine wpList_plain hgd fun K hK => ?_
  have hle : bytes * n ≤ 100 * n := Nat.mul_le_mul_right _ hby
  have hbi : (i.bytes : Int) * (n : Int) ≤ 281474976710656 := by
    rw [h4, ← Int.natCast_mul]; omega
  have hrun := run_make (P := P) w t e i z E.under h1 h2 kl kc n n (by omega) (by omega) hbi (by omega)
  subst hL
  subst hC
  unfold Oper.wp
  simp only [execOp, hop, hl, hc, hrun, Result.andThen_ok, Sem.run_bind, Sem.run_pure]
  simp only [Int.toNat_natCast, h3]
  refine hK _ _ (h _ ?_ (hb.alloc hB _))
  unfold Row
  rw [heap_alloc_new]
  congr 2
  rw [← Array.toList_inj]
  have hlen : z.cells.toList.length = m := by rw [Array.length_toList]; exact E.cells
  have hz : z.cells = z.cells.toList.toArray := by simp
  have hm := made_cells z.cells.toList (by rw [hlen]; exact E.pos) n
  rw [hlen] at hm
  rw [List.toList_toArray, ← hm]
/-- What a copy of structs leaves, of a row of the call's own. -/
theorem runW_copy_row {P : Program} (w : World) (dT sT ty elem : TypeId) (m : Nat) (g o dLen dCap : Nat) (a : Addr) (sLen sCap : Nat) (cur : Array Value) (t : TypeId) (cs : List Value)
    (hu : P.underlying dT = some (.slice elem)) (hs : (P.info? elem).map (·.size) = some m)
    (hg : w.heap[g]? = some (.cells cur t (0, 0))) (hn : cs.length = Nat.min sLen dLen * m)
    (hsrc : ∀ j v, cs[j]? = some v → w.cell? (a.add j) = some v) (hfit : o + cs.length ≤ cur.size) (h1 : ∀ v ∈ cs, v.oneCell' = true) :
    (Builtin.copy_ #[dT, sT] ty #[.slice (some ⟨g, o, none⟩) dLen dCap, .slice (some a) sLen sCap]).run P w =
      .ok (goInt (Nat.min sLen dLen)) (w.setRow g (cur.toList.take o ++ cs ++ cur.toList.drop (o + cs.length)).toArray) := by
  have hl := run_loadCells_list (P := P) w a cs hsrc
  have hst := run_storeCells_at P g o t cs 0 cur w hg (by simpa using hfit) h1
  cases hq : P.info? elem with
  | none => simp [hq] at hs
  | some i =>
    have hi : i.size = m := by simpa [hq] using hs
    simp [Builtin.copy_, run_underlying hu, Builtin.lenOf, Builtin.firstCells, sizeOf, typeInfo, hq, hi, ← hn, hl, hst]
/-- The same at a call of the walk. -/
theorem wpList_copyW {P : Program} {w : World} {ops : Array Oper} {rest : List Oper} {o : Oper} {a : Act} {Q : Exit → Act → World → Prop} {t e : TypeId} {bytes m : Nat} {z : Value} (E : ElemW P t e bytes m z)
    (hgd : o.guard = none) (d s : Operand) (ho : o.op = .call { callee := .builtin .copy, args := #[d, s], argTypes := #[t, t] })
    (g off dLen dCap : Nat) (ad : Addr) (sLen sCap : Nat) (cur src new : List Value) (hnew : cur.take off ++ src ++ cur.drop (off + src.length) = new) (k B : Nat) (w0 : World)
    (hd : a.eval d = .slice (some ⟨g, off, none⟩) dLen dCap) (hs : a.eval s = .slice (some ad) sLen sCap) (hr : Row w g e cur) (hk : Nat.min sLen dLen = k) (hm : src.length = k * m)
    (hl : ∀ j v, src[j]? = some v → w.cell? (ad.add j) = some v) (h1 : ∀ u ∈ src, u.oneCell' = true)
    (hfit : off + src.length ≤ cur.length) (hb : Below B w0 w) (hB : B ≤ g)
    (h : ∀ w', Row w' g e new → Below B w0 w' → wpList P ops Q rest (a.put o.dst (goInt k)) w') :
    wpList P ops Q (o :: rest) a w := by
  subst hnew
  obtain ⟨i, h2, h3, h4, h5⟩ := E.info
  refine wpList_plain hgd fun K hK => ?_
  have hrun := runW_copy_row (P := P) w t t o.type e m g off dLen dCap ad sLen sCap cur.toArray e src E.under (by rw [h2]; simp [h4]) hr (by rw [hk]; exact hm) hl (by simpa using hfit) h1
  rw [hk] at hrun
  unfold Oper.wp
  simp [execOp, ho, resolve, invoke, builtin, hd, hs, hrun, Result.andThen]
  exact hK _ _ (h _ (by unfold Row; rw [show cur.take off ++ src ++ cur.drop (off + src.length) = cur.take off ++ (src ++ cur.drop (off + src.length)) by simp]; simpa using setRow_heap w g _ _ e _ hr) (below_setRow hb hB _))
/-- A struct stored into a row. -/
theorem wpList_storeW {P : Program} {w : World} {ops : Array Oper} {rest : List Oper} {o : Oper} {a : Act} {Q : Exit → Act → World → Prop} (hgd : o.guard = none) (t : TypeId) (x y : Operand) (ho : o.op = .store t x y)
    (g off : Nat) (t' : TypeId) (cur cs new : List Value) (hnew : cur.take off ++ cs ++ cur.drop (off + cs.length) = new) (hx : a.eval x = .pointer (some ⟨g, off, none⟩)) (hy : a.eval y = .agg cs.toArray) (hr : Row w g t' cur) (hi : (P.info? t).map (·.size) = some cs.length)
    (hfit : off + cs.length ≤ cur.length) (h1 : ∀ u ∈ cs, u.oneCell' = true) (w0 : World) (B : Nat) (hb : Below B w0 w) (hB : B ≤ g)
    (h : ∀ w', Row w' g t' new → Below B w0 w' → (∀ k ty l, k ≠ g → Row w k ty l → Row w' k ty l) → wpList P ops Q rest (a.put o.dst undef) w') : wpList P ops Q (o :: rest) a w := by
  subst hnew
  have hst := run_storeCells_at P g off t' cs 0 cur.toArray w hr (by simpa using hfit) h1
  have hrun : (storeVar t ⟨g, off, none⟩ (.agg cs.toArray)).run P w = .ok () (w.setRow g (cur.take off ++ cs ++ cur.drop (off + cs.length)).toArray) := by
    cases hq : P.info? t with
    | none => simp [hq] at hi
    | some i =>
      have hs : cs.length = i.size := by simp [hq] at hi; omega
      have hst2 : (storeCells ⟨g, off, none⟩ cs).run P w = .ok () (w.setRow g (cur.take off ++ cs ++ cur.drop (off + cs.length)).toArray) := by simpa using hst
      simp [storeVar, sizeOf, typeInfo, hq, Value.cells, hs]
      rw [← hs]
      simpa using hst2
  refine wpList_plain hgd fun K hK => ?_
  unfold Oper.wp execOp
  simp only [ho, hx, hy, Instr.storeAt, Instr.sureAddr, Sem.run_bind, Sem.run_pure, Result.andThen_ok, hrun]
  refine hK _ _ (h _ (setRow_heap w g cur.toArray _ t' (0, 0) hr) (below_setRow hb hB _) ?_)
  intro k ty l hk hrk
  exact (setRow_other w g k _ hk).trans hrk
section

variable {P : Program} {o : Oper} {ρ : Operand → Value} {w : World} {R : Value → World → Prop}
/-- copy of structs into a row, as one operation. -/
theorem gives_copyW {t e : TypeId} {bytes m : Nat} {z : Value} (E : ElemW P t e bytes m z) {d s : Operand} (ho : o.op = .call { callee := .builtin .copy, args := #[d, s], argTypes := #[t, t] })
    {g off dLen dCap : Nat} {ad : Addr} {sLen sCap : Nat} {cur src : List Value} {k : Nat}
    (hd : ρ d = .slice (some ⟨g, off, none⟩) dLen dCap) (hs : ρ s = .slice (some ad) sLen sCap) (hr : Row w g e cur) (hk : Nat.min sLen dLen = k) (hm : src.length = k * m)
    (hl : ∀ j v, src[j]? = some v → w.cell? (ad.add j) = some v) (h1 : ∀ u ∈ src, u.oneCell' = true) (hfit : off + src.length ≤ cur.length)
    (hR : R (goInt k) (w.setRow g (cur.take off ++ src ++ cur.drop (off + src.length)).toArray)) : Gives P o ρ w R := by
  obtain ⟨i, h2, h3, h4, h5⟩ := E.info
  have hrun := runW_copy_row (P := P) w t t o.type e m g off dLen dCap ad sLen sCap cur.toArray e src E.under (by rw [h2]; simp [h4]) hr (by rw [hk]; exact hm) hl (by simpa using hfit) h1
  rw [hk] at hrun
  refine gives_of (v := goInt k) ?_ hR
  simp [execOp, ho, resolve, invoke, builtin, hd, hs, hrun, Result.andThen]
/-- A variable of a struct's type laid. -/
theorem gives_alloc {t : TypeId} {z : Value} {i : TypeInfo} (hi : P.info? t = some i) (hz : i.zero = some z) (ho : o.op = .alloc t) (hR : R (.pointer (some ⟨w.heap.size, 0, none⟩)) (w.alloc (.cells z.cells t))) : Gives P o ρ w R := by
  refine gives_of (v := .pointer (some ⟨w.heap.size, 0, none⟩)) (w' := w.alloc (.cells z.cells t)) ?_ hR
  have hz2 : (zeroValue t).run P w = .ok z w := by simp [zeroValue, typeInfo, hi, hz]
  unfold execOp
  simp only [ho, Instr.alloc, newVar, newRow, Sem.run_bind, Sem.run_pure, hz2, Result.andThen_ok, run_newObj]
  rfl
/-- The whole of a struct stored. -/
theorem gives_store_row {t t' : TypeId} {x y : Operand} {g : Nat} {old cs : List Value} (ho : o.op = .store t x y) (hx : ρ x = .pointer (some ⟨g, 0, none⟩)) (hy : ρ y = .agg cs.toArray) (hr : Row w g t' old)
    (hi : (P.info? t).map (·.size) = some cs.length) (hl : old.length = cs.length) (h1 : ∀ u ∈ cs, u.oneCell' = true) (hR : R undef (w.setRow g cs.toArray)) : Gives P o ρ w R := by
  have hrun := run_storeVar_row (P := P) w g t' t old.toArray cs.toArray hr (by simpa using hi) (by simp [hl]) (by simpa using h1)
  have h : (execOp ρ o).run P w = .ok .skip (w.setRow g cs.toArray) := by
    unfold execOp
    simp only [ho, hx, hy, Instr.storeAt, Instr.sureAddr, Sem.run_bind, Sem.run_pure, Result.andThen_ok, hrun]
  unfold Gives
  rw [h]
  exact hR
end
theorem rowAll_set {w : World} {g : Nat} {t : TypeId} {old cs : List Value} (h : Row w g t old) : Row (w.setRow g cs.toArray) g t cs := setRow_heap w g old.toArray cs.toArray t (0, 0) h
theorem rowAll_far {w : World} {g k : Nat} {t : TypeId} {l : List Value} {cs : Array Value} (hk : k ≠ g) (h : Row w k t l) : Row (w.setRow g cs) k t l := (setRow_other w g k cs hk).trans h
/-- A row made later lasts where block g alone changes. -/
theorem own_past {w w' : World} {base s n g : Nat} {e : TypeId} {v : Value} {xs : List Value} (h : w.ownsRow base e s v n xs) (hg : w.grownBy w' (some g)) (hlt : g < base) : w'.ownsRow base e s v n xs := by
  refine h.kept hg ?_
  rcases h.2 with ⟨rfl, _⟩ | ⟨g2, cap2, cur2, rfl, hge, _⟩
  · exact .inl rfl
  · refine .inr ?_
    simp only [Value.ownBlock, ne_eq, Option.some.injEq]
    omega
theorem grown_set (w : World) (g i : Nat) (v : Value) : w.grownBy (w.setCell ⟨g, i, none⟩ v) (some g) :=
  ⟨rfl, rfl, rfl, by rw [World.size_setCell]; exact Nat.le_refl _, fun k _ hne => Below.heap_setCell w _ v k (fun h => hne (by rw [h]))⟩
theorem isR_row {α : Type} {f : α → List Value} {l : List α} {w : World} {g : Nat} {t : TypeId} {m : Nat} (h : Row w g t (l.flatMap f)) (hl : l.length = m) (hm : m ≤ 1000000) : IsR f l (.slice (some ⟨g, 0, none⟩) m m) w := by
  refine ⟨some ⟨g, 0, none⟩, m, by rw [hl], fun h => by (cases h), by omega, by unfold maxLen; omega, ?_⟩
  have := h.lies 0
  rwa [List.drop_zero] at this
theorem flat_drop {α : Type} {f : α → List Value} {m : Nat} (hf : ∀ x, (f x).length = m) : ∀ (l : List α) (k : Nat), (l.drop k).flatMap f = (l.flatMap f).drop (k * m)
  | [], k => by simp
  | x :: l, 0 => by simp
  | x :: l, k + 1 => by
    rw [List.drop_succ_cons, List.flatMap_cons, flat_drop hf l k, Nat.succ_mul, List.drop_append, hf, show k * m + m - m = k * m by omega, List.drop_of_length_le (l := f x) (by rw [hf]; omega), List.nil_append]
theorem ElemW.size_ {P : Program} {t e : TypeId} {bytes m : Nat} {z : Value} (E : ElemW P t e bytes m z) (w : World) : (sizeOf e).run P w = .ok m w := by
  obtain ⟨i, h1, _, h3, _⟩ := E.info
  simp [sizeOf, typeInfo, h1, h3]
/-- x[k:] of a slice of structs, as one equation. -/
theorem fromR_named {P : Program} {α : Type} {f : α → List Value} {w : World} {t e : TypeId} {bytes m : Nat} {z : Value} (E : ElemW P t e bytes m z) (hf : ∀ x, (f x).length = m) {A : Option Addr} {n c k : Nat} {l : List α} (hk : k ≤ n) (hI : IsR f l (.slice A n c) w) :
    ∃ v, (∀ W, (Instr.sliceAt t (.slice A n c) (some (.int .i64 (k : Int))) none none).run P W = .ok v W) ∧ IsR f (l.drop k) v w := by
  obtain ⟨hxs, hA, hnc, hcm, hl⟩ := hI.parts
  have ht := E.under
  have he : P.elem t = e := by simp [Program.elem, ht]
  refine ⟨.slice (if c = k then A else A.map (·.add (k * m))) (n - k) (c - k), fun W => ?_, if c = k then A else A.map (·.add (k * m)), c - k, ?_, ?_, ?_, by omega, ?_⟩
  · rw [run_sliceAt_slice W t _ _ _ _ (by rw [he]; exact ht), run_slice_l W t A n c (by rw [he]; exact ht) .i64 (k : Int) (by omega) (by omega), he, E.size_]
    simp [sliced]
  · rw [List.length_drop, hxs]
  · intro hB
    have : A = none := by
      split at hB
      · exact hB
      · cases A with
        | none => rfl
        | some ad => simp at hB
    have := hA this
    rw [List.length_drop, hxs]
    omega
  · rw [List.length_drop, hxs]; omega
  · rw [flat_drop hf]
    have hp := E.pos
    have h1 := hl.drop (k := k * m) (cap := c * m) (by rw [flat_len hf, hxs]; exact Nat.mul_le_mul_right _ hnc)
    by_cases hc : c = k
    · subst hc; simpa using h1
    · rw [if_neg (fun h => hc (Nat.eq_of_mul_eq_mul_right hp h))] at h1
      rw [if_neg hc]; exact h1
/-- Old memory as it was; whatever block holds just these cells holds them on, and a block of their type stays one: for a region that lays a block and stores them. -/
def Keep (B : Nat) (T : TypeId) (cs : List Value) (w w' : World) : Prop := Below B w w' ∧ (∀ h, Row w h T cs → Row w' h T cs) ∧ (∀ h old, Row w h T old → old.length = cs.length → ∃ old', old'.length = cs.length ∧ Row w' h T old')
theorem keep_later (B : Nat) (T : TypeId) (cs : List Value) : Later (Keep B T cs) where
  refl := fun _ => ⟨Below.refl _ _, fun _ h => h, fun _ old h hl => ⟨old, hl, h⟩⟩
  trans := fun h1 h2 => ⟨h1.1.trans h2.1, fun k h => h2.2.1 k (h1.2.1 k h), fun k old h hl => (h1.2.2 k old h hl).elim fun o h => h2.2.2 k o h.2 h.1⟩
  draw := fun _ => ⟨⟨rfl, rfl, rfl, Nat.le_refl _, fun _ _ => rfl⟩, fun _ h => h, fun _ old h hl => ⟨old, hl, h⟩⟩
theorem Keep.of {B : Nat} {T : TypeId} {cs : List Value} {w w' : World} (hB : B ≤ w.heap.size) (h : Below w.heap.size w w') : Keep B T cs w w' :=
  ⟨h.mono hB, fun _ hr => hr.below h hr.lt, fun _ old hr hl => ⟨old, hl, hr.below h hr.lt⟩⟩
theorem Keep.self {B : Nat} {T : TypeId} {cs : List Value} (w : World) : Keep B T cs w w := (keep_later B T cs).refl w
theorem Keep.alloc {B : Nat} {T : TypeId} {cs : List Value} {w : World} (hB : B ≤ w.heap.size) (o : Obj) : Keep B T cs w (w.alloc o) := Keep.of hB ((Below.refl _ _).alloc (Nat.le_refl _) _)
theorem Keep.store {B : Nat} {T : TypeId} {cs old : List Value} {w : World} {g : Nat} (hB : B ≤ g) (hr : Row w g T old) : Keep B T cs w (w.setRow g cs.toArray) :=
  ⟨below_setRow (Below.refl _ _) hB _, fun k h => if hk : k = g then by subst hk; exact rowAll_set hr else rowAll_far hk h,
    fun k o h hl => if hk : k = g then by subst hk; exact ⟨cs, rfl, rowAll_set hr⟩ else ⟨o, hl, rowAll_far hk h⟩⟩
/-- The pointer to a variable that such a region lays. -/
def FactR.laid (B : Nat) (T : TypeId) (cs : List Value) : FactR (Keep B T cs) := FactR.of (fun v w => ∃ h old, v = .pointer (some ⟨h, 0, none⟩) ∧ B ≤ h ∧ old.length = cs.length ∧ Row w h T old)
  fun _ _ _ ⟨h, old, h1, h2, h3, h4⟩ hk => (hk.2.2 h old h4 h3).elim fun o ho => ⟨h, o, h1, h2, ho.1, ho.2⟩
/-- Operation p's pointer has what it is to have. -/
def FactR.stored (B : Nat) (T : TypeId) (cs : List Value) (p : Nat) : FactR (Keep B T cs) := ⟨fun vs _ w => ∃ h, vs p = .pointer (some ⟨h, 0, none⟩) ∧ B ≤ h ∧ Row w h T cs, [p],
  fun _ _ _ _ ⟨h, h1, h2, h3⟩ hk => ⟨h, h1, h2, hk.2.1 h h3⟩, fun _ _ _ _ hp ⟨h, h1, h2, h3⟩ => ⟨h, by rw [← hp p (by simp)]; exact h1, h2, h3⟩⟩
/-- All but block g as it was, and that holds either what it held or what it is to hold. -/
def Turn (B g : Nat) (T : TypeId) (cur new : List Value) (w w' : World) : Prop := Below B w w' ∧ (Row w g T cur → Row w' g T cur ∨ Row w' g T new) ∧ (Row w g T new → Row w' g T new)
theorem turn_later (B g : Nat) (T : TypeId) (cur new : List Value) : Later (Turn B g T cur new) where
  refl := fun _ => ⟨Below.refl _ _, .inl, id⟩
  trans := fun h1 h2 => ⟨h1.1.trans h2.1, fun h => (h1.2.1 h).elim (fun h => h2.2.1 h) (fun h => .inr (h2.2.2 h)), fun h => h2.2.2 (h1.2.2 h)⟩
  draw := fun _ => ⟨⟨rfl, rfl, rfl, Nat.le_refl _, fun _ _ => rfl⟩, .inl, id⟩
end Go.Proofs.YtnbiopihcbnkpaaGreatDoor

/- The contract of layer 9's reference's Put. -/







namespace Go.Proofs.YtnbiopihcbnkpaaGreatDoor

open Go.RowKit

theorem gall_snoc (us : List Nat) (u : Nat) : gall (us ++ [u]) = (gall us && u == (us ++ [u]).headD 0) := by
  unfold gall
  rw [List.all_append]
  cases us with
  | nil => simp
  | cons a t => simp
def TPutRel (l : List Int) (f : Bool) (w : World) (v same i : Value) (wr : World) : Prop :=
  ∃ (j : Nat) (us : List Nat), j + 1 ≤ l.length ∧ i = .int .i64 ((j + 1 : Nat) : Int) ∧ gsizes l f j = some us ∧ same = .bool (gall us) ∧ wr.ownsRow w.heap.size 53 1 v j (us.map uv) ∧ Below w.heap.size w wr
theorem rdiff9_q (a b : Int) (u : Nat) (d o : Bool) (w : World) (ha : inInt a) (hb : inInt b) (h : gdiff a b = (u, d, o)) : Calls Tryz.prog 47 #[.int .i64 a, .int .i64 b] w fun e w' => e = .returned (.tuple #[.int .u64 (u : Int), .bool d, .bool o]) ∧ w' = w := by
  refine (rdiff9_any a b w ha hb).mono ?_
  rintro e w' ⟨h1, h2⟩
  rw [h] at h1
  exact ⟨h1, h2.symm⟩
def Low63 (u : Nat) : Prop := ∃ b : Int, b = 9223372036854775808 ∧ (u : Int) < b
theorem Low63.lt {u : Nat} (h : Low63 u) : (u : Int) < 9223372036854775808 := by obtain ⟨b, rfl, h⟩ := h; exact h
theorem vint_64 {x : Int} {s : Bool} (h : inInt x) : vint x s < 18446744073709551616 := by
  unfold inInt at h
  unfold vint
  split
  · have := vzig_bd h.1 h.2; omega
  · omega
theorem gat_eq {l : List Int} {f : Bool} {j : Nat} {x y : Int} {u : Nat} {d o : Bool} (hj : j + 1 < l.length) (hx : x = l[j]) (hy : y = l[j + 1]) (h : gdiff x y = (u, d, o)) : gat l f j = if o = true ∧ (u = 0 ∨ d = f) then some u else none := by
  unfold gat gone
  rw [List.getD_eq_getElem?_getD, List.getD_eq_getElem?_getD, List.getElem?_eq_getElem (by omega), List.getElem?_eq_getElem hj]
  simp only [Option.getD_some]
  rw [← hx, ← hy, h]
theorem glay_all {l : List Int} {s : Bool} {us : List Nat} {x0 : Int} {n : Nat} (hn : n = l.length) (hx : l.headD 0 = x0) (h : gall us = true) : glay l s us = dheadN 3 0 n ++ vput (vint x0 s) ++ vput (vint (gfirst l us) true) := by
  unfold glay gtail gnum
  rw [if_pos h, if_pos h, hx, ← hn, List.append_nil]
theorem glay_some {l : List Int} {s : Bool} {us : List Nat} {x0 : Int} {n : Nat} (hn : n = l.length) (hx : l.headD 0 = x0) (h : gall us = false) : glay l s us = dheadN 3 (gcode us.tail) n ++ vput (vint x0 s) ++ vput (vint (gfirst l us) true) ++ bpack us.tail (gwide us.tail) := by
  unfold glay gtail gnum
  rw [if_neg (by rw [h]; decide), if_neg (by rw [h]; decide), hx, ← hn]
set_option maxHeartbeats 4000000 in
set_option maxRecDepth 100000 in
theorem rput9_any (l : List Int) (v : Value) (s : Bool) (w : World) (hv : IsV iv l v w) (hl : ∀ x ∈ l, inInt x) (hb : l.length ≤ 1000000) :
    Calls Tryz.prog 26 #[v, .bool s] w (RetE w (gputE l s)) := by
  have HP := Lib.hid (rplain8_any l v s w hv hl hb)
  have HVV := Lib.hid hv
  obtain ⟨A, c, rfl, hA, hnc, hcm, hlw⟩ := hv
  obtain ⟨n, hn⟩ : ∃ n, n = l.length := ⟨_, rfl⟩
  rw [← hn] at hA hnc hb HP HVV ⊢
  cases hd : dplain l s with
  | none =>
    have hE := Lib.hid (gputE_no (.inl hd))
    have hpe : dplainE l s = ([], 1) := by unfold dplainE; rw [hd]
    rw [hpe] at HP
    clear hn hlw hcm hA hd hpe
    go_enter Tryz.func26, Tryz.ntmps26
    go_wp2_with fail
    refine HP.out.mono ?_
    rintro e w1 ⟨u, rfl, hu, hb1⟩
    obtain ⟨A1, c1, rfl, _⟩ := hu
    go_wp2
    go_ret2
    rw [hE.out]
    exact RetE.nil _ hb1
  | some ps =>
    have hpe : dplainE l s = (ps, 0) := by unfold dplainE; rw [hd]
    rw [hpe] at HP
    by_cases hlen : n < 2 ∨ 512 < n
    · have hE := Lib.hid (gputE_no (l := l) (s := s) (.inr (by omega)))
      clear hn hlw hcm hA hd hpe
      go_enter Tryz.func26, Tryz.ntmps26
      go_wp2_with fail
      refine HP.out.mono ?_
      rintro e w1 ⟨u, rfl, hu, hb1⟩
      obtain ⟨A1, c1, rfl, _⟩ := hu
      rcases hlen with h1 | h2
      · have d1 : decide ((n : Int) < 2) = true := decide_eq_true (by omega)
        go_wp2
        go_ret2
        rw [hE.out]
        exact RetE.nil _ hb1
      · have d1 : decide ((n : Int) < 2) = false := decide_eq_false (by omega)
        have d2 : decide ((512 : Int) < (n : Int)) = true := decide_eq_true (by omega)
        go_wp2
        go_ret2
        rw [hE.out]
        exact RetE.nil _ hb1
    · have d1 : decide ((n : Int) < 2) = false := decide_eq_false (by omega)
      have d2 : decide ((512 : Int) < (n : Int)) = false := decide_eq_false (by omega)
      have hE : Hid (∀ us, gsizes l (gfalls l) (l.length - 1) = some us → gputE l s = (glay l s us, 0)) := Lib.hid (fun us h => gputE_some (by rw [hd]; exact fun h => nomatch h) (by omega) (by omega) h)
      have HN := Lib.hid hn
      have HL := Lib.hid hl
      have hn2 : 2 ≤ n := by omega
      have hn5 : n ≤ 512 := by omega
      -- the first two numbers
      obtain ⟨ad, rfl, had, hcell0⟩ := HVV.out.at (k := 0) (by omega)
      obtain ⟨_, hAd, _, hcell1⟩ := HVV.out.at (k := 1) (by omega)
      injection hAd with hAd
      subst hAd
      obtain ⟨x0, hx0⟩ : ∃ x, x = l[0] := ⟨_, rfl⟩
      obtain ⟨x1, hx1⟩ : ∃ x, x = l[1] := ⟨_, rfl⟩
      rw [← hx0] at hcell0
      rw [← hx1] at hcell1
      have e0 : ad.add 0 = ad := by simp [Addr.add]
      have e1 : ad.add 1 = ⟨ad.block, ad.off + 1, none⟩ := by simp [Addr.add]
      have HLT := Lib.hid had
      have HX0 := Lib.hid (show inInt x0 by rw [hx0]; exact hl _ (List.getElem_mem _))
      have HH : Hid (l.headD 0 = x0) := Lib.hid (by rw [hx0]; cases l with | nil => simp at hn; omega | cons a t => rfl)
      obtain ⟨f, hf⟩ : ∃ f, f = gfalls l := ⟨_, rfl⟩
      have df : decide (x1 < x0) = f := by
        rw [hf]
        unfold gfalls
        rw [List.getD_eq_getElem?_getD, List.getD_eq_getElem?_getD, List.getElem?_eq_getElem (by omega), List.getElem?_eq_getElem (by omega)]
        simp only [Option.getD_some]
        rw [← hx0, ← hx1]
      rw [← hf] at hE
      have HF := Lib.hid hf
      clear hn hlw hcm hA hd hpe hlen hx0 hx1 hl hf
      go_enter Tryz.func26, Tryz.ntmps26
      go_wp2_with fail
      refine HP.out.mono ?_
      rintro e w1 ⟨u, rfl, hu, hb1⟩
      obtain ⟨A1, c1, rfl, _⟩ := hu
      have hbA : Below w1.heap.size w1 (w1.alloc (.cells #[] 53)) := (Below.refl _ _).alloc (Nat.le_refl _) _
      have hc0 : (w1.alloc (.cells #[] 53)).cell? ad = some (.int .i64 x0) := by
        rw [e0] at hcell0
        exact ((hb1.trans (hbA.mono hb1.size)).cell had).trans hcell0
      have hc1 : (w1.alloc (.cells #[] 53)).cell? ⟨ad.block, ad.off + 1, none⟩ = some (.int .i64 x1) := by
        rw [e1] at hcell1
        exact ((hb1.trans (hbA.mono hb1.size)).cell (p := ⟨ad.block, ad.off + 1, none⟩) had).trans hcell1
      have HC0 : Hid (w.cell? ad = some (.int .i64 x0)) := Lib.hid (by rw [e0] at hcell0; exact hcell0)
      have E0 := Lib.hid e0
      have hn1 : (1 : Int) < (n : Int) := by omega
      have hn0 : (0 : Int) < (n : Int) := by omega
      clear hcell0 hcell1 e0 e1
      go_wp2
      go_quiet (fail)
      obtain ⟨w2, hw2⟩ : ∃ w2, w2 = (w1.alloc (.cells #[] 53)).drewN nq := ⟨_, rfl⟩
      have hst : TPutRel l f w1 (.slice (some ⟨w1.heap.size, 0, none⟩) 0 0) (.bool true) (.int .i64 1) w2 := ⟨0, [], by have := HN.out; omega, rfl, rfl, rfl, by rw [hw2]; exact own_drewN (own_made w1 _) nq, by rw [hw2]; exact below_drewN hbA nq⟩
      rw [← hw2]
      have HB1 := Lib.hid hb1
      have HST := Lib.hid hst
      clear hst hw2 hc0 hc1 hb1 hbA
      go_wp2
      go_loopw [8, 10, 11] (TPutRel l f w1) (fun _ _ i _ => n - (intOf i).toNat)
      case atStart => exact HST.out
      case round =>
        obtain ⟨j, us, hj, rfl, hus, rfl, hown, hbr⟩ := hrel
        have hjn : j + 1 ≤ n := by have := HN.out; omega
        have hul := gsizes_len hus
        have HUS := Lib.hid hus
        have HUL := Lib.hid hul
        have HBR := Lib.hid (below_then HB1.out hbr)
        have hz := hbr.size
        have HTT := Lib.hid HST
        clear hus hul
        by_cases hlt : j + 1 < n
        · have hl1 : j + 1 < l.length := by have := HN.out; omega
          obtain ⟨_, hAd, _, hcx⟩ := (HVV.out.below HBR.out).at (k := j) (by omega)
          injection hAd with hAd
          subst hAd
          obtain ⟨_, hAd, _, hcy⟩ := (HVV.out.below HBR.out).at (k := j + 1) hl1
          injection hAd with hAd
          subst hAd
          obtain ⟨x, hx⟩ : ∃ x, x = l[j] := ⟨_, rfl⟩
          obtain ⟨y, hy⟩ : ∃ y, y = l[j + 1] := ⟨_, rfl⟩
          have hxi : inInt x := by rw [hx]; exact HL.out _ (List.getElem_mem _)
          have hyi : inInt y := by rw [hy]; exact HL.out _ (List.getElem_mem _)
          obtain ⟨u, d, o, hg⟩ : ∃ u d o, gdiff x y = (u, d, o) := ⟨_, _, _, rfl⟩
          have hga := gat_eq (f := f) hl1 hx hy hg
          have hu64 : (u : Int) < 9223372036854775808 := by have := gdiff_lt x y; rw [hg] at this; exact this
          replace hcx : wr.cell? (ad.add j) = some (.int .i64 x) := by rw [hcx, hx]; rfl
          replace hcy : wr.cell? (ad.add (j + 1)) = some (.int .i64 y) := by rw [hcy, hy]; rfl
          have hlt2 : ((j + 1 : Nat) : Int) < (n : Int) := by omega
          have hltj : (j : Int) < (n : Int) := by omega
          have hjw : IntKind.i64.wrap (j : Int) = (j : Int) := by rw [IntKind.wrap_i64]; omega
          have hjj : ((j + 1 : Nat) : Int) - 1 = (j : Int) := by omega
          have HD := Lib.hid (fun W => rdiff9_q x y u d o W hxi hyi hg)
          have HQ := Lib.hid (fun m => Calls.quiet_of_same (n := m) (w := wr) (HD.out (wr.drewN m)))
          have HGA := Lib.hid hga
          have HU64 := Lib.hid hu64
          obtain ⟨J, hJ⟩ : ∃ J, J = j + 1 := ⟨_, rfl⟩
          rw [← hJ] at hcy hlt2 hjj ⊢
          have HJ := Lib.hid hJ
          clear hx hy hxi hyi hg hga hu64 hJ
          go_wp2
          go_quiet ((go_at_call 47; exact HQ.out _))
          obtain ⟨w4, hw4⟩ : ∃ w4, w4 = wr.drewN nq := ⟨_, rfl⟩
          rw [← hw4]
          have hown4 : w4.ownsRow w1.heap.size 53 1 u8 j (us.map uv) := by rw [hw4]; exact own_drewN hown nq
          have hb4 : Below w1.heap.size w1 w4 := by rw [hw4]; exact below_drewN hbr nq
          clear hw4 hown hbr hz hcx hcy
          have hz := hb4.size
          by_cases hgo : o = true ∧ (u = 0 ∨ d = f)
          · have hgat : Hid (gat l f j = some u) := Lib.hid (by rw [HGA.out, if_pos hgo])
            obtain ⟨rfl, hud⟩ := hgo
            have hcase : (decide (0 < u) = false) ∨ (decide (0 < u) = true ∧ f = d) := by
              rcases Nat.eq_zero_or_pos u with h | h
              · exact .inl (decide_eq_false (by omega))
              · exact .inr ⟨decide_eq_true (by omega), by rcases hud with h2 | h2; omega; exact h2.symm⟩
            obtain ⟨T, hT⟩ : ∃ T, T = gall (us ++ [u]) := ⟨_, rfl⟩
            obtain ⟨z, hzz⟩ : ∃ z, z = (us ++ [u]).headD 0 := ⟨_, rfl⟩
            have hTT : T = (gall us && u == z) := by rw [hT, gall_snoc, hzz]
            have HT := Lib.hid hT
            have HZ := Lib.hid hzz
            have hji : (j : Int) + 1 = (J : Int) := by have := HJ.out; omega
            have hul : us.length = j := HUL.out
            clear hT hzz hud hji
            rcases hcase with hd0 | ⟨hd0, rfl⟩
            all_goals
              go_wp2_with (at_builtin; refine wpList_push elemU rfl _ _ rfl w1.heap.size _ _ _ (uv u) w4 w1 rfl rfl rfl rfl hown4 hb4 hz (by omega) (by omega) ?_)
              intro v5 w5 hown5 hb5 _ _
              have hown6 : w5.ownsRow w1.heap.size 53 1 v5 J ((us ++ [u]).map uv) := by
                rw [List.map_append, List.map_singleton, HJ.out]
                exact hown5
              obtain ⟨B5, c5, rfl, hnc5, hcm5, _, hl5, _⟩ := own_shape hown6
              have hI5 : IsV uv (us ++ [u]) (.slice B5 J c5) w5 := isV_own hown6
              obtain ⟨b5, rfl, hb5', hc5⟩ := hI5.at (k := 0) (by simp)
              have hcz : w5.cell? b5 = some (.int .u64 (z : Int)) := by
                have e : b5.add 0 = b5 := by simp [Addr.add]
                rw [e] at hc5
                rw [hc5, HZ.out]
                congr 1
                cases us <;> rfl
              have hrel : TPutRel l f w1 (.slice (some b5) J c5) (.bool T) (.int .i64 ((J : Int) + 1)) w5 :=
                ⟨J, us ++ [u], by have := HJ.out; omega, by rw [Int.natCast_add]; rfl, by rw [HJ.out]; exact gsizes_succ HUS.out hgat.out, by rw [HT.out], hown6, hb5⟩
              have HREL := Lib.hid hrel
              have hJ0 : (0 : Int) < (J : Int) := by have := HJ.out; omega
              have hJw : IntKind.i64.wrap ((J : Int) + 1) = (J : Int) + 1 := by rw [IntKind.wrap_i64]; omega
              clear hown5 hown6 hI5 hc5 hb5 hb5' hrel hown4 hl5 hul
              cases hga : gall us with
              | false =>
                rw [hga, Bool.false_and] at hTT
                subst hTT
                go_wp2
                go_roundw
                case rel => exact HREL.out
                case measure => simp [intOf]; have := HJ.out; omega
              | true =>
                rw [hga, Bool.true_and] at hTT
                have hTi : ((u : Int) == (z : Int)) = T := by rw [hTT, Bool.eq_iff_iff, beq_iff_eq, beq_iff_eq]; omega
                clear hTT
                go_wp2
                go_roundw
                case rel => exact HREL.out
                case measure => simp [intOf]; have := HJ.out; omega
          · have hgat : gat l f j = none := by rw [HGA.out, if_neg hgo]
            have hE2 : Hid (gputE l s = ([], 1)) := Lib.hid (gputE_none (gsizes_none (k := j) (by have := HN.out; omega) (by rw [← HF.out]; exact hgat)))
            have hcase : o = false ∨ (o = true ∧ decide (0 < u) = true ∧ ((d = true ∧ f = false) ∨ (d = false ∧ f = true))) := by
              cases o with
              | false => exact .inl rfl
              | true =>
                refine .inr ⟨rfl, ?_, ?_⟩
                · exact decide_eq_true (by rcases Nat.eq_zero_or_pos u with h | h; exact absurd ⟨rfl, .inl h⟩ hgo; omega)
                · cases d <;> cases f <;> first | exact .inl ⟨rfl, rfl⟩ | exact .inr ⟨rfl, rfl⟩ | exact absurd ⟨rfl, .inr rfl⟩ hgo
            have HB4 := Lib.hid (below_then HB1.out hb4)
            clear hgat hgo hown4 hb4
            rcases hcase with rfl | ⟨rfl, hd0, ⟨rfl, rfl⟩ | ⟨rfl, rfl⟩⟩
            all_goals
              go_wp2
              go_ret2
              rw [hE2.out]
              exact RetE.nil _ HB4.out
        · have hjn' : n = j + 1 := by omega
          have hE2 : Hid (gputE l s = (glay l s us, 0)) := Lib.hid (hE.out us (by rw [← HN.out, hjn', Nat.add_sub_cancel]; exact HUS.out))
          have H64 : Hid (∀ u ∈ us, u < 2 ^ 64) := Lib.hid (gsizes_64 HUS.out)
          obtain ⟨u0, ut, hu0⟩ : ∃ u0 ut, us = u0 :: ut := by
            cases us with
            | nil => have := HUL.out; simp at this; omega
            | cons a t => exact ⟨a, t, rfl⟩
          have hu0b : (u0 : Int) < 9223372036854775808 := gsizes_lt HUS.out u0 (by rw [hu0]; exact List.mem_cons_self)
          have hI8 : IsV uv us u8 wr := isV_own hown
          obtain ⟨B8, n8, c8, rfl⟩ := hI8.shape
          obtain ⟨hn8, _, hnc8, hcm8, _⟩ := hI8.parts
          obtain rfl : n8 = j := by rw [← hn8]; exact HUL.out
          obtain ⟨b8, rfl, hb8, hc8⟩ := hI8.at (k := 0) (by rw [hu0]; simp)
          have hcz : wr.cell? b8 = some (.int .u64 (u0 : Int)) := by
            have e : b8.add 0 = b8 := by simp [Addr.add]
            rw [e] at hc8
            rw [hc8]
            congr 1
            subst hu0
            rfl
          have hw0 : IntKind.i64.wrap (u0 : Int) = (u0 : Int) := by rw [IntKind.wrap_i64]; omega
          have hw1 : IntKind.i64.wrap (-(u0 : Int)) = -(u0 : Int) := by rw [IntKind.wrap_i64]; omega
          have hgf : gfirst l us = if f = true then -(u0 : Int) else (u0 : Int) := by
            unfold gfirst
            rw [← HF.out, hu0]
            rfl
          have hgi : inInt (gfirst l us) := by
            rw [hgf]
            unfold inInt
            split <;> omega
          obtain ⟨D, hD⟩ : ∃ D, D = gfirst l us := ⟨_, rfl⟩
          rw [← hD] at hgf hgi
          have HD := Lib.hid hD
          have HGI := Lib.hid hgi
          have HI8 := Lib.hid hI8
          have hj0 : (0 : Int) < (n8 : Int) := by omega
          have hltn : ¬ ((n8 + 1 : Nat) : Int) < (n : Int) := by omega
          obtain ⟨t8, ht8, hT8⟩ := fromV_named elemU (k := 1) (by omega) hI8
          have ht8' : ∀ W, (Instr.sliceAt 43 (.slice (some b8) n8 c8) (some (.int .i64 1)) none none).run Tryz.prog W = .ok t8 W := ht8
          rw [show us.drop 1 = us.tail from List.drop_one] at hT8
          have HT8 := Lib.hid hT8
          have HB8 := Lib.hid (below_then HB1.out hbr)
          have hult : us.tail.length ≤ 512 := by rw [List.length_tail, HUL.out]; omega
          have HULT := Lib.hid hult
          have hn81 : n8 + 1 ≤ n := by omega
          have HU0B : Low63 u0 := ⟨_, rfl, hu0b⟩
          clear hu0b hI8 hn8 hcm8 hb8 hc8 hgi hD ht8 hT8 hown hu0 hult hjn'
          cases hga : gall us with
          | true =>
            have HGL := Lib.hid (glay_all (s := s) HN.out HH.out hga)
            have HHD := Lib.hid (fun X => rhead8_any 3 0 (n : Int) X)
            rw [show (3 : Int) = ((3 : Nat) : Int) from rfl, show (0 : Int) = ((0 : Nat) : Int) from rfl, dhead_in (by omega) (by omega) (by omega) hn5] at HHD
            clear hga
            cases f with
            | true =>
              rw [if_pos rfl] at hgf
              rw [HD.out] at hgf
              have HGF := Lib.hid hgf
              clear hgf
              go_wp2
              refine wp_region_list [.is (.int .i64 0), .is (.slice (some ad) n c), .is (.int .i64 (n : Int)), .bytes (dheadN 3 0 n), .is (.slice (some ad) n c), .is (.pointer (some ad)), .is (.int .i64 x0), .is (.bool s), .bytes (dheadN 3 0 n ++ vput (vint x0 s)), .bytes (dheadN 3 0 n ++ vput (vint x0 s))] [some 106, some 107, some 108, some 109, some 110, some 111, some 112, some 113, some 114, some 18] (by kernel_rfl) (by kernel_rfl) (by kernel_rfl) rfl ⟨?_, ?_, ?_, ?_, ?_, ?_, ?_, ?_, ?_, ?_, trivial⟩ ?_
              · intro ρ W1 hb1 H
                exact gives_move rfl (H.old 16 _ (by kernel_rfl) rfl) ⟨rfl, Below.refl _ _⟩
              · intro ρ W1 hb1 H
                exact gives_move rfl (H.old 0 _ (by kernel_rfl) rfl) ⟨rfl, Below.refl _ _⟩
              · intro ρ W1 hb1 H
                exact gives_len Tryz.underlying22 rfl (H.new 107 1 (by kernel_rfl)) ⟨rfl, Below.refl _ _⟩
              · intro ρ W1 hb1 H
                have e1 : ρ (.tmp 106) = .int .i64 0 := H.new 106 0 (by kernel_rfl)
                have e2 : ρ (.tmp 108) = .int .i64 (n : Int) := H.new 108 2 (by kernel_rfl)
                refine gives_call rfl (fun _ _ => by kernel_rfl) (H.func _) (args := #[.int .i64 3, .int .i64 0, .int .i64 (n : Int)]) (by simp [H.const, e1, e2]) ?_
                exact (HHD.out W1).mono fun _ _ ⟨v, h1, h2, h3⟩ => ⟨v, h1, isB_own h2, h3⟩
              · intro ρ W1 hb1 H
                exact gives_move rfl (H.old 0 _ (by kernel_rfl) rfl) ⟨rfl, Below.refl _ _⟩
              · intro ρ W1 hb1 H
                exact gives_index (k := 0) elemI rfl (H.new 110 4 (by kernel_rfl)) (H.const _) (by omega) ⟨by rw [E0.out]; rfl, Below.refl _ _⟩
              · intro ρ W1 hb1 H
                exact gives_load rfl (H.new 111 5 (by kernel_rfl)) Tryz.underlying3 rfl ((hb1.cell (Nat.lt_of_lt_of_le HLT.out HB8.out.size)).trans ((HB8.out.cell HLT.out).trans HC0.out)) ⟨rfl, Below.refl _ _⟩
              · intro ρ W1 hb1 H
                exact gives_move rfl (H.old 1 _ (by kernel_rfl) rfl) ⟨rfl, Below.refl _ _⟩
              · intro ρ W1 hb1 H
                have e0 : IsB (dheadN 3 0 n) (ρ (.tmp 109)) W1 := H.new 109 3 (by kernel_rfl)
                have e1 : ρ (.tmp 112) = .int .i64 x0 := H.new 112 6 (by kernel_rfl)
                have e2 : ρ (.tmp 113) = .bool s := H.new 113 7 (by kernel_rfl)
                refine gives_call rfl (fun _ _ => by kernel_rfl) (H.func _) (args := #[ρ (.tmp 109), .int .i64 x0, .bool s]) (by simp [e1, e2]) ?_
                exact (rputInt_isB x0 s e0 (by rw [dheadN_len]; omega) HX0.out.1 HX0.out.2).mono fun _ _ h => h
              · intro ρ W1 hb1 H
                exact gives_assign rfl rfl ⟨H.new 114 8 (by kernel_rfl), Below.refl _ _⟩
              · intro vs W1 hb1 hfs
                have f9 : IsB (dheadN 3 0 n ++ vput (vint x0 s)) (vs 9) W1 := hfs 9 (by decide)
                clear hfs
                simp only [putAll, Nat.zero_add, Nat.reduceAdd]
                generalize vs 0 = z0
                generalize vs 1 = z1
                generalize vs 2 = z2
                generalize vs 3 = z3
                generalize vs 4 = z4
                generalize vs 5 = z5
                generalize vs 6 = z6
                generalize vs 7 = z7
                generalize vs 8 = z8
                generalize vs 9 = z9 at f9 ⊢
                simp only [Act.put, List.setIfInBounds_toArray, List.set_cons_succ, List.set_cons_zero]
                have HO := Lib.hid f9
                have HBa := Lib.hid (below_then HB8.out hb1)
                clear f9
                have hlen : (dheadN 3 0 n ++ vput (vint x0 s)).length ≤ 1000 := by rw [List.length_append, dheadN_len]; have := vput_len_10 (x := vint x0 s) (vint_64 HX0.out); omega
                have HLN := Lib.hid hlen
                clear hlen
                go_wp2_with fail
                refine (rputInt_isO (-(u0 : Int)) true HO.out (by have := HLN.out; omega) (by have := HU0B.lt; omega) (by have := HU0B.lt; omega)).mono ?_
                rintro e w6 ⟨v6, rfl, hown6, hb6⟩
                have HB6 := Lib.hid (below_then HBa.out hb6)
                have HI6 := Lib.hid (isB_own hown6)
                clear hown6 hb6
                go_wp2
                go_ret2
                rw [hE2.out, HGL.out, HGF.out]
                exact ⟨_, rfl, HI6.out, HB6.out⟩
            | false =>
              rw [if_neg (by decide)] at hgf
              rw [HD.out] at hgf
              have HGF := Lib.hid hgf
              clear hgf
              go_wp2
              refine wp_region_list [.is (.int .i64 0), .is (.slice (some ad) n c), .is (.int .i64 (n : Int)), .bytes (dheadN 3 0 n), .is (.slice (some ad) n c), .is (.pointer (some ad)), .is (.int .i64 x0), .is (.bool s), .bytes (dheadN 3 0 n ++ vput (vint x0 s)), .bytes (dheadN 3 0 n ++ vput (vint x0 s))] [some 106, some 107, some 108, some 109, some 110, some 111, some 112, some 113, some 114, some 18] (by kernel_rfl) (by kernel_rfl) (by kernel_rfl) rfl ⟨?_, ?_, ?_, ?_, ?_, ?_, ?_, ?_, ?_, ?_, trivial⟩ ?_
              · intro ρ W1 hb1 H
                exact gives_move rfl (H.old 16 _ (by kernel_rfl) rfl) ⟨rfl, Below.refl _ _⟩
              · intro ρ W1 hb1 H
                exact gives_move rfl (H.old 0 _ (by kernel_rfl) rfl) ⟨rfl, Below.refl _ _⟩
              · intro ρ W1 hb1 H
                exact gives_len Tryz.underlying22 rfl (H.new 107 1 (by kernel_rfl)) ⟨rfl, Below.refl _ _⟩
              · intro ρ W1 hb1 H
                have e1 : ρ (.tmp 106) = .int .i64 0 := H.new 106 0 (by kernel_rfl)
                have e2 : ρ (.tmp 108) = .int .i64 (n : Int) := H.new 108 2 (by kernel_rfl)
                refine gives_call rfl (fun _ _ => by kernel_rfl) (H.func _) (args := #[.int .i64 3, .int .i64 0, .int .i64 (n : Int)]) (by simp [H.const, e1, e2]) ?_
                exact (HHD.out W1).mono fun _ _ ⟨v, h1, h2, h3⟩ => ⟨v, h1, isB_own h2, h3⟩
              · intro ρ W1 hb1 H
                exact gives_move rfl (H.old 0 _ (by kernel_rfl) rfl) ⟨rfl, Below.refl _ _⟩
              · intro ρ W1 hb1 H
                exact gives_index (k := 0) elemI rfl (H.new 110 4 (by kernel_rfl)) (H.const _) (by omega) ⟨by rw [E0.out]; rfl, Below.refl _ _⟩
              · intro ρ W1 hb1 H
                exact gives_load rfl (H.new 111 5 (by kernel_rfl)) Tryz.underlying3 rfl ((hb1.cell (Nat.lt_of_lt_of_le HLT.out HB8.out.size)).trans ((HB8.out.cell HLT.out).trans HC0.out)) ⟨rfl, Below.refl _ _⟩
              · intro ρ W1 hb1 H
                exact gives_move rfl (H.old 1 _ (by kernel_rfl) rfl) ⟨rfl, Below.refl _ _⟩
              · intro ρ W1 hb1 H
                have e0 : IsB (dheadN 3 0 n) (ρ (.tmp 109)) W1 := H.new 109 3 (by kernel_rfl)
                have e1 : ρ (.tmp 112) = .int .i64 x0 := H.new 112 6 (by kernel_rfl)
                have e2 : ρ (.tmp 113) = .bool s := H.new 113 7 (by kernel_rfl)
                refine gives_call rfl (fun _ _ => by kernel_rfl) (H.func _) (args := #[ρ (.tmp 109), .int .i64 x0, .bool s]) (by simp [e1, e2]) ?_
                exact (rputInt_isB x0 s e0 (by rw [dheadN_len]; omega) HX0.out.1 HX0.out.2).mono fun _ _ h => h
              · intro ρ W1 hb1 H
                exact gives_assign rfl rfl ⟨H.new 114 8 (by kernel_rfl), Below.refl _ _⟩
              · intro vs W1 hb1 hfs
                have f9 : IsB (dheadN 3 0 n ++ vput (vint x0 s)) (vs 9) W1 := hfs 9 (by decide)
                clear hfs
                simp only [putAll, Nat.zero_add, Nat.reduceAdd]
                generalize vs 0 = z0
                generalize vs 1 = z1
                generalize vs 2 = z2
                generalize vs 3 = z3
                generalize vs 4 = z4
                generalize vs 5 = z5
                generalize vs 6 = z6
                generalize vs 7 = z7
                generalize vs 8 = z8
                generalize vs 9 = z9 at f9 ⊢
                simp only [Act.put, List.setIfInBounds_toArray, List.set_cons_succ, List.set_cons_zero]
                have HO := Lib.hid f9
                have HBa := Lib.hid (below_then HB8.out hb1)
                clear f9
                have hlen : (dheadN 3 0 n ++ vput (vint x0 s)).length ≤ 1000 := by rw [List.length_append, dheadN_len]; have := vput_len_10 (x := vint x0 s) (vint_64 HX0.out); omega
                have HLN := Lib.hid hlen
                clear hlen
                go_wp2_with fail
                refine (rputInt_isO (u0 : Int) true HO.out (by have := HLN.out; omega) (by have := HU0B.lt; omega) (by have := HU0B.lt; omega)).mono ?_
                rintro e w6 ⟨v6, rfl, hown6, hb6⟩
                have HB6 := Lib.hid (below_then HBa.out hb6)
                have HI6 := Lib.hid (isB_own hown6)
                clear hown6 hb6
                go_wp2
                go_ret2
                rw [hE2.out, HGL.out, HGF.out]
                exact ⟨_, rfl, HI6.out, HB6.out⟩
          | false =>
            have H64t : Hid (∀ u ∈ us.tail, u < 2 ^ 64) := Lib.hid fun u hu => H64.out u (List.mem_of_mem_tail hu)
            have HGL := Lib.hid (glay_some (s := s) HN.out HH.out hga)
            obtain ⟨g1, g2, g3, g4, g5, g6, g7, g8⟩ := gwide_int H64t.out
            have hroom := gwide_room H64t.out
            obtain ⟨G, hG⟩ : ∃ G, G = gwide us.tail := ⟨_, rfl⟩
            obtain ⟨C, hC⟩ : ∃ C, C = gcode us.tail := ⟨_, rfl⟩
            rw [← hG, ← hC] at HGL
            rw [← hG] at g1 g2 g4 g5 hroom
            rw [← hC] at g2 g6 g7
            have HHD := Lib.hid (fun X => rhead8_any 3 (C : Int) (n : Int) X)
            rw [show (3 : Int) = ((3 : Nat) : Int) from rfl, dhead_in (by omega) g7 (by omega) hn5] at HHD
            have HPKE := Lib.hid (show packsAny us.tail (G : Int) = (bpack us.tail G, 0) by rw [packsAny_in _ _ g5, packs_ok hroom])
            obtain ⟨M, hM⟩ : ∃ M, M = wmost us.tail := ⟨_, rfl⟩
            rw [← hM] at g1
            obtain ⟨X, hX⟩ : ∃ X, X = max 2 M := ⟨_, rfl⟩
            rw [← hX] at g1
            have hmax : ∀ (ts : Array TypeId) (t : TypeId) (W : World), (Builtin.max_ ts t #[.int .i64 2, .int .i64 (M : Int)]).run Tryz.prog W = .ok (.int .i64 (X : Int)) W := fun ts t W => by
              rw [run_max_int2]
              congr 2
              split <;> omega
            have HCL := Lib.hid (fun W => rclosest_any (X : Int) W)
            rw [g1] at HCL
            have HCD := Lib.hid (fun W => rcode_any (G : Int) W)
            rw [g2] at HCD
            rw [hM] at hmax
            clear hga g1 g2 g3 g6 g7 g8 hroom hG hC hM hX
            cases f with
            | true =>
              rw [if_pos rfl] at hgf
              rw [HD.out] at hgf
              have HGF := Lib.hid hgf
              clear hgf
              go_wp2_with (first | (go_at_call 43; refine (rmost_is HT8.out (by have := HULT.out; omega) H64t.out).mono ?_; rintro e w' ⟨rfl, rfl⟩) | (go_at_call 42; refine (HCL.out _).mono ?_; rintro e w' ⟨rfl, rfl⟩) | (go_at_call 46; refine (HCD.out _).mono ?_; rintro e w' ⟨rfl, rfl⟩))
              refine wp_region_list [.is (.int .i64 (C : Int)), .is (.slice (some ad) n c), .is (.int .i64 (n : Int)), .bytes (dheadN 3 C n), .is (.slice (some ad) n c), .is (.pointer (some ad)), .is (.int .i64 x0), .is (.bool s), .bytes (dheadN 3 C n ++ vput (vint x0 s)), .bytes (dheadN 3 C n ++ vput (vint x0 s))] [some 106, some 107, some 108, some 109, some 110, some 111, some 112, some 113, some 114, some 18] (by kernel_rfl) (by kernel_rfl) (by kernel_rfl) rfl ⟨?_, ?_, ?_, ?_, ?_, ?_, ?_, ?_, ?_, ?_, trivial⟩ ?_
              · intro ρ W1 hb1 H
                exact gives_move rfl (H.old 16 _ (by kernel_rfl) rfl) ⟨rfl, Below.refl _ _⟩
              · intro ρ W1 hb1 H
                exact gives_move rfl (H.old 0 _ (by kernel_rfl) rfl) ⟨rfl, Below.refl _ _⟩
              · intro ρ W1 hb1 H
                exact gives_len Tryz.underlying22 rfl (H.new 107 1 (by kernel_rfl)) ⟨rfl, Below.refl _ _⟩
              · intro ρ W1 hb1 H
                have e1 : ρ (.tmp 106) = .int .i64 (C : Int) := H.new 106 0 (by kernel_rfl)
                have e2 : ρ (.tmp 108) = .int .i64 (n : Int) := H.new 108 2 (by kernel_rfl)
                refine gives_call rfl (fun _ _ => by kernel_rfl) (H.func _) (args := #[.int .i64 3, .int .i64 (C : Int), .int .i64 (n : Int)]) (by simp [H.const, e1, e2]) ?_
                exact (HHD.out W1).mono fun _ _ ⟨v, h1, h2, h3⟩ => ⟨v, h1, isB_own h2, h3⟩
              · intro ρ W1 hb1 H
                exact gives_move rfl (H.old 0 _ (by kernel_rfl) rfl) ⟨rfl, Below.refl _ _⟩
              · intro ρ W1 hb1 H
                exact gives_index (k := 0) elemI rfl (H.new 110 4 (by kernel_rfl)) (H.const _) (by omega) ⟨by rw [E0.out]; rfl, Below.refl _ _⟩
              · intro ρ W1 hb1 H
                exact gives_load rfl (H.new 111 5 (by kernel_rfl)) Tryz.underlying3 rfl ((hb1.cell (Nat.lt_of_lt_of_le HLT.out HB8.out.size)).trans ((HB8.out.cell HLT.out).trans HC0.out)) ⟨rfl, Below.refl _ _⟩
              · intro ρ W1 hb1 H
                exact gives_move rfl (H.old 1 _ (by kernel_rfl) rfl) ⟨rfl, Below.refl _ _⟩
              · intro ρ W1 hb1 H
                have e0 : IsB (dheadN 3 C n) (ρ (.tmp 109)) W1 := H.new 109 3 (by kernel_rfl)
                have e1 : ρ (.tmp 112) = .int .i64 x0 := H.new 112 6 (by kernel_rfl)
                have e2 : ρ (.tmp 113) = .bool s := H.new 113 7 (by kernel_rfl)
                refine gives_call rfl (fun _ _ => by kernel_rfl) (H.func _) (args := #[ρ (.tmp 109), .int .i64 x0, .bool s]) (by simp [e1, e2]) ?_
                exact (rputInt_isB x0 s e0 (by rw [dheadN_len]; omega) HX0.out.1 HX0.out.2).mono fun _ _ h => h
              · intro ρ W1 hb1 H
                exact gives_assign rfl rfl ⟨H.new 114 8 (by kernel_rfl), Below.refl _ _⟩
              · intro vs W1 hb1 hfs
                have f9 : IsB (dheadN 3 C n ++ vput (vint x0 s)) (vs 9) W1 := hfs 9 (by decide)
                clear hfs
                simp only [putAll, Nat.zero_add, Nat.reduceAdd]
                generalize vs 0 = z0
                generalize vs 1 = z1
                generalize vs 2 = z2
                generalize vs 3 = z3
                generalize vs 4 = z4
                generalize vs 5 = z5
                generalize vs 6 = z6
                generalize vs 7 = z7
                generalize vs 8 = z8
                generalize vs 9 = z9 at f9 ⊢
                simp only [Act.put, List.setIfInBounds_toArray, List.set_cons_succ, List.set_cons_zero]
                have HO := Lib.hid f9
                have HBa := Lib.hid (below_then HB8.out hb1)
                clear f9
                have hlen : (dheadN 3 C n ++ vput (vint x0 s)).length ≤ 1000 := by rw [List.length_append, dheadN_len]; have := vput_len_10 (x := vint x0 s) (vint_64 HX0.out); omega
                have HLN := Lib.hid hlen
                clear hlen
                go_wp2_with fail
                refine (rputInt_isO (-(u0 : Int)) true HO.out (by have := HLN.out; omega) (by have := HU0B.lt; omega) (by have := HU0B.lt; omega)).mono ?_
                rintro e w6 ⟨v6, rfl, hown6, hb6⟩
                have HB6 := Lib.hid (below_then HBa.out hb6)
                have HT6 := Lib.hid (isU_iff.2 ((HT8.out.below hb1).below hb6))
                have HOW := Lib.hid hown6
                have hz6 := hb6.size
                clear hown6
                go_wp2_with fail
                refine (rpack_is (G : Int) HT6.out (by have := HULT.out; omega) H64t.out).mono ?_
                rw [HPKE.out]
                rintro e w7 ⟨v7, rfl, hv7, hb7⟩
                have hown7 := own_below HOW.out hb7
                obtain ⟨A7, n7, c7, rfl⟩ := IsV.shape (f := bv) hv7
                obtain ⟨hn7, hA7, -, -, hl7⟩ := IsV.parts (f := bv) (show IsV bv _ _ _ from hv7)
                have hM7 : ((bpack us.tail G).map bv).length = n7 := by rw [List.length_map]; exact hn7
                have hn7b : n7 ≤ 5000 := by rw [← hn7, bpack_len]; exact Nat.le_trans (bsize_small HULT.out (by omega)) (by omega)
                have HM7 := Lib.hid hM7
                have hbb7 := hb6.trans (hb7.mono hb6.size)
                have hzz7 := hbb7.size
                obtain ⟨K6, hK6⟩ : ∃ K, K = (dheadN 3 C n ++ vput (vint x0 s) ++ vput (vint (-(u0 : Int)) true)).length := ⟨_, rfl⟩
                have hK6b : K6 ≤ 2000 := by rw [hK6, List.length_append]; have := vput_len_10 (x := vint (-(u0 : Int)) true) (vint_64 (show inInt (-(u0 : Int)) from ⟨by have := HU0B.lt; omega, by have := HU0B.lt; omega⟩)); have := HLN.out; omega
                rw [← hK6] at hown7
                have HK6 := Lib.hid hK6
                clear hv7 hb7 hM7 hn7 hb6 hK6
                obtain ⟨xs6, hx6⟩ : ∃ xs, xs = (dheadN 3 C n ++ vput (vint x0 s) ++ vput (vint (-(u0 : Int)) true)).map bv := ⟨_, rfl⟩
                rw [← hx6] at hown7
                have HX6 := Lib.hid hx6
                clear hx6
                go_wp2_with (at_builtin; refine wpList_join elemB rfl _ _ rfl W1.heap.size _ _ _ _ _ _ ((bpack us.tail G).map bv) W1 rfl rfl hA7 HM7.out hl7 (bv_one _) hown7 hbb7 hzz7 (by omega) (by omega) ?_)
                intro v8 w8 hown8 hb8 _ _
                have HI9 : Hid (IsB (dheadN 3 C n ++ vput (vint x0 s) ++ vput (vint (-(u0 : Int)) true) ++ bpack us.tail G) v8 w8) := Lib.hid (isB_own (by rw [List.map_append, ← HX6.out]; exact hown8))
                have HB9 := Lib.hid (below_then HBa.out hb8)
                clear hown8 hb8 hown7 hbb7 hzz7
                go_wp2
                go_ret2
                rw [hE2.out, HGL.out, HGF.out]
                exact ⟨_, rfl, HI9.out, HB9.out⟩
            | false =>
              rw [if_neg (by decide)] at hgf
              rw [HD.out] at hgf
              have HGF := Lib.hid hgf
              clear hgf
              go_wp2_with (first | (go_at_call 43; refine (rmost_is HT8.out (by have := HULT.out; omega) H64t.out).mono ?_; rintro e w' ⟨rfl, rfl⟩) | (go_at_call 42; refine (HCL.out _).mono ?_; rintro e w' ⟨rfl, rfl⟩) | (go_at_call 46; refine (HCD.out _).mono ?_; rintro e w' ⟨rfl, rfl⟩))
              refine wp_region_list [.is (.int .i64 (C : Int)), .is (.slice (some ad) n c), .is (.int .i64 (n : Int)), .bytes (dheadN 3 C n), .is (.slice (some ad) n c), .is (.pointer (some ad)), .is (.int .i64 x0), .is (.bool s), .bytes (dheadN 3 C n ++ vput (vint x0 s)), .bytes (dheadN 3 C n ++ vput (vint x0 s))] [some 106, some 107, some 108, some 109, some 110, some 111, some 112, some 113, some 114, some 18] (by kernel_rfl) (by kernel_rfl) (by kernel_rfl) rfl ⟨?_, ?_, ?_, ?_, ?_, ?_, ?_, ?_, ?_, ?_, trivial⟩ ?_
              · intro ρ W1 hb1 H
                exact gives_move rfl (H.old 16 _ (by kernel_rfl) rfl) ⟨rfl, Below.refl _ _⟩
              · intro ρ W1 hb1 H
                exact gives_move rfl (H.old 0 _ (by kernel_rfl) rfl) ⟨rfl, Below.refl _ _⟩
              · intro ρ W1 hb1 H
                exact gives_len Tryz.underlying22 rfl (H.new 107 1 (by kernel_rfl)) ⟨rfl, Below.refl _ _⟩
              · intro ρ W1 hb1 H
                have e1 : ρ (.tmp 106) = .int .i64 (C : Int) := H.new 106 0 (by kernel_rfl)
                have e2 : ρ (.tmp 108) = .int .i64 (n : Int) := H.new 108 2 (by kernel_rfl)
                refine gives_call rfl (fun _ _ => by kernel_rfl) (H.func _) (args := #[.int .i64 3, .int .i64 (C : Int), .int .i64 (n : Int)]) (by simp [H.const, e1, e2]) ?_
                exact (HHD.out W1).mono fun _ _ ⟨v, h1, h2, h3⟩ => ⟨v, h1, isB_own h2, h3⟩
              · intro ρ W1 hb1 H
                exact gives_move rfl (H.old 0 _ (by kernel_rfl) rfl) ⟨rfl, Below.refl _ _⟩
              · intro ρ W1 hb1 H
                exact gives_index (k := 0) elemI rfl (H.new 110 4 (by kernel_rfl)) (H.const _) (by omega) ⟨by rw [E0.out]; rfl, Below.refl _ _⟩
              · intro ρ W1 hb1 H
                exact gives_load rfl (H.new 111 5 (by kernel_rfl)) Tryz.underlying3 rfl ((hb1.cell (Nat.lt_of_lt_of_le HLT.out HB8.out.size)).trans ((HB8.out.cell HLT.out).trans HC0.out)) ⟨rfl, Below.refl _ _⟩
              · intro ρ W1 hb1 H
                exact gives_move rfl (H.old 1 _ (by kernel_rfl) rfl) ⟨rfl, Below.refl _ _⟩
              · intro ρ W1 hb1 H
                have e0 : IsB (dheadN 3 C n) (ρ (.tmp 109)) W1 := H.new 109 3 (by kernel_rfl)
                have e1 : ρ (.tmp 112) = .int .i64 x0 := H.new 112 6 (by kernel_rfl)
                have e2 : ρ (.tmp 113) = .bool s := H.new 113 7 (by kernel_rfl)
                refine gives_call rfl (fun _ _ => by kernel_rfl) (H.func _) (args := #[ρ (.tmp 109), .int .i64 x0, .bool s]) (by simp [e1, e2]) ?_
                exact (rputInt_isB x0 s e0 (by rw [dheadN_len]; omega) HX0.out.1 HX0.out.2).mono fun _ _ h => h
              · intro ρ W1 hb1 H
                exact gives_assign rfl rfl ⟨H.new 114 8 (by kernel_rfl), Below.refl _ _⟩
              · intro vs W1 hb1 hfs
                have f9 : IsB (dheadN 3 C n ++ vput (vint x0 s)) (vs 9) W1 := hfs 9 (by decide)
                clear hfs
                simp only [putAll, Nat.zero_add, Nat.reduceAdd]
                generalize vs 0 = z0
                generalize vs 1 = z1
                generalize vs 2 = z2
                generalize vs 3 = z3
                generalize vs 4 = z4
                generalize vs 5 = z5
                generalize vs 6 = z6
                generalize vs 7 = z7
                generalize vs 8 = z8
                generalize vs 9 = z9 at f9 ⊢
                simp only [Act.put, List.setIfInBounds_toArray, List.set_cons_succ, List.set_cons_zero]
                have HO := Lib.hid f9
                have HBa := Lib.hid (below_then HB8.out hb1)
                clear f9
                have hlen : (dheadN 3 C n ++ vput (vint x0 s)).length ≤ 1000 := by rw [List.length_append, dheadN_len]; have := vput_len_10 (x := vint x0 s) (vint_64 HX0.out); omega
                have HLN := Lib.hid hlen
                clear hlen
                go_wp2_with fail
                refine (rputInt_isO (u0 : Int) true HO.out (by have := HLN.out; omega) (by have := HU0B.lt; omega) (by have := HU0B.lt; omega)).mono ?_
                rintro e w6 ⟨v6, rfl, hown6, hb6⟩
                have HB6 := Lib.hid (below_then HBa.out hb6)
                have HT6 := Lib.hid (isU_iff.2 ((HT8.out.below hb1).below hb6))
                have HOW := Lib.hid hown6
                have hz6 := hb6.size
                clear hown6
                go_wp2_with fail
                refine (rpack_is (G : Int) HT6.out (by have := HULT.out; omega) H64t.out).mono ?_
                rw [HPKE.out]
                rintro e w7 ⟨v7, rfl, hv7, hb7⟩
                have hown7 := own_below HOW.out hb7
                obtain ⟨A7, n7, c7, rfl⟩ := IsV.shape (f := bv) hv7
                obtain ⟨hn7, hA7, -, -, hl7⟩ := IsV.parts (f := bv) (show IsV bv _ _ _ from hv7)
                have hM7 : ((bpack us.tail G).map bv).length = n7 := by rw [List.length_map]; exact hn7
                have hn7b : n7 ≤ 5000 := by rw [← hn7, bpack_len]; exact Nat.le_trans (bsize_small HULT.out (by omega)) (by omega)
                have HM7 := Lib.hid hM7
                have hbb7 := hb6.trans (hb7.mono hb6.size)
                have hzz7 := hbb7.size
                obtain ⟨K6, hK6⟩ : ∃ K, K = (dheadN 3 C n ++ vput (vint x0 s) ++ vput (vint (u0 : Int) true)).length := ⟨_, rfl⟩
                have hK6b : K6 ≤ 2000 := by rw [hK6, List.length_append]; have := vput_len_10 (x := vint (u0 : Int) true) (vint_64 (show inInt (u0 : Int) from ⟨by have := HU0B.lt; omega, by have := HU0B.lt; omega⟩)); have := HLN.out; omega
                rw [← hK6] at hown7
                have HK6 := Lib.hid hK6
                clear hv7 hb7 hM7 hn7 hb6 hK6
                obtain ⟨xs6, hx6⟩ : ∃ xs, xs = (dheadN 3 C n ++ vput (vint x0 s) ++ vput (vint (u0 : Int) true)).map bv := ⟨_, rfl⟩
                rw [← hx6] at hown7
                have HX6 := Lib.hid hx6
                clear hx6
                go_wp2_with (at_builtin; refine wpList_join elemB rfl _ _ rfl W1.heap.size _ _ _ _ _ _ ((bpack us.tail G).map bv) W1 rfl rfl hA7 HM7.out hl7 (bv_one _) hown7 hbb7 hzz7 (by omega) (by omega) ?_)
                intro v8 w8 hown8 hb8 _ _
                have HI9 : Hid (IsB (dheadN 3 C n ++ vput (vint x0 s) ++ vput (vint (u0 : Int) true) ++ bpack us.tail G) v8 w8) := Lib.hid (isB_own (by rw [List.map_append, ← HX6.out]; exact hown8))
                have HB9 := Lib.hid (below_then HBa.out hb8)
                clear hown8 hb8 hown7 hbb7 hzz7
                go_wp2
                go_ret2
                rw [hE2.out, HGL.out, HGF.out]
                exact ⟨_, rfl, HI9.out, HB9.out⟩
end Go.Proofs.YtnbiopihcbnkpaaGreatDoor

/- The contract of layer 7's reference's Take. -/



namespace Go.Proofs.YtnbiopihcbnkpaaGreatDoor

open Go.RowKit

theorem results_tmp4 {fn : Func} {t u v x : Tmp} (h : fn.results = #[.tmp t, .tmp u, .tmp v, .tmp x]) (tmps : Array Value) (P : Program) (w : World) :
    (results fn tmps).run P w = .ok (.tuple #[tmps.getD t undef, tmps.getD u undef, tmps.getD v undef, tmps.getD x undef]) w := by
  simp [results, h]
theorem gives_not {P : Program} {o : Oper} {ρ : Operand → Value} {w : World} {R : Value → World → Prop} {t : TypeId} {x : Operand} {b : Bool} (ho : o.op = .unOp .not t x) (hx : ρ x = .bool b) (hR : R (.bool !b) w) : Gives P o ρ w R := by
  refine gives_of (v := .bool !b) (w' := w) ?_ hR
  simp [execOp, ho, hx, go_sem]

/-- A number, how often, bytes and an error that a call answers. -/
def RetT7 (w : World) (p : Int × Int × List UInt8 × Int) (e : Ending) (w' : World) : Prop :=
  ∃ v, e = .returned (.tuple #[.int .i64 p.1, .int .i64 p.2.1, v, .int .i64 p.2.2.2]) ∧ IsB p.2.2.1 v w' ∧ Below w.heap.size w w'
theorem RetT7.no {w w' : World} (hb : Below w.heap.size w w') : RetT7 w (0, 0, [], 2) (.returned (.tuple #[.int .i64 0, .int .i64 0, .slice none 0 0, .int .i64 2])) w' := ⟨_, rfl, isB_nil _, hb⟩
/-- The same, the bytes in a row of the call's own. -/
def RetT7O (w : World) (p : Int × Int × List UInt8 × Int) (e : Ending) (w' : World) : Prop :=
  ∃ v, e = .returned (.tuple #[.int .i64 p.1, .int .i64 p.2.1, v, .int .i64 p.2.2.2]) ∧ OwnB w p.2.2.1 v w' ∧ Below w.heap.size w w'
theorem RetT7O.no {w w' : World} (hb : Below w.heap.size w w') : RetT7O w (0, 0, [], 2) (.returned (.tuple #[.int .i64 0, .int .i64 0, .slice none 0 0, .int .i64 2])) w' := ⟨_, rfl, OwnB.nil _ _, hb⟩
theorem etake_nil (s : Bool) : etake [] s = (0, 0, [], 2) := rfl
theorem etake_big {l : List UInt8} {s : Bool} (h0 : 0 < l.length) (h : 64 ≤ l[0].toNat) : etake l s = (0, 0, [], 2) := by
  cases l with
  | nil => simp at h0
  | cons b r => simp at h; unfold etake; simp only []; rw [if_pos h]
theorem etake_short {l : List UInt8} {s : Bool} {K : Nat} (h0 : 0 < l.length) (hK : K = l[0].toNat / 8 + 1) (h : l.length < K + 1) : etake l s = (0, 0, [], 2) := by
  cases l with
  | nil => simp at h0
  | cons b r =>
    simp at hK h
    unfold etake; simp only []
    rw [← hK]
    split
    · rfl
    · first | rfl | rw [if_pos (by omega)]
theorem etake_none {l : List UInt8} {s : Bool} {K u : Nat} (h0 : 0 < l.length) (hK : K = l[0].toNat / 8 + 1) (hu : u = bval ((l.drop 1).take K)) (h : emade u s = none ∨ ebytes u ≠ K) : etake l s = (0, 0, [], 2) := by
  cases l with
  | nil => simp at h0
  | cons b r =>
    simp at hK hu
    unfold etake; simp only []
    rw [← hK, ← hu]
    split
    · rfl
    split
    · rfl
    split
    · rfl
    · rename_i h3
      rcases h with h | h
      · rw [h]
      · exact absurd h h3
theorem etake_some {l : List UInt8} {s : Bool} {K u : Nat} {x : Int} (h0 : 0 < l.length) (hK : K = l[0].toNat / 8 + 1) (h64 : l[0].toNat < 64) (hl : K + 1 ≤ l.length) (hu : u = bval ((l.drop 1).take K)) (h : emade u s = some x) (hb : ebytes u = K) :
    etake l s = (x, ((l[0].toNat % 8 + 3 : Nat) : Int), l.drop (K + 1), 0) := by
  cases l with
  | nil => simp at h0
  | cons b r =>
    simp at hK hu hl h64
    unfold etake; simp only []
    rw [← hK, ← hu, if_neg (by omega), if_neg (by omega), if_neg (by omega), h]
    simp
theorem elay_same {l : List UInt8} {K u T : Nat} (h0 : 0 < l.length) (hK : K = l[0].toNat / 8 + 1) (hT : T = l[0].toNat % 8 + 3) (hl : K + 1 ≤ l.length) (hu : u = bval ((l.drop 1).take K)) : elay u T = l.take (K + 1) ↔ ebytes u = K := by
  cases l with
  | nil => simp at h0
  | cons b r =>
    simp at hK hu hl hT
    rw [List.take_succ_cons]
    constructor
    · intro h
      have h1 := congrArg List.length h
      rw [elay_len, List.length_cons, List.length_take] at h1
      omega
    · intro h
      unfold elay
      rw [h, show 8 * (K - 1) + (T - 3) = b.toNat by omega, UInt8.ofNat_toNat]
      congr 1
      exact (eq_be (by rw [List.length_take]; omega) hu.symm).symm
theorem bval_at (r : List UInt8) (k : Nat) (h : k < r.length) : bval (r.take (k + 1)) = 256 * bval (r.take k) + r[k].toNat := by
  rw [List.take_succ_eq_append_getElem h, bval_append]
  simp [bval]
  omega
theorem bval_seven (r : List UInt8) {k : Nat} (h : k ≤ 7) : ((bval (r.take k) : Nat) : Int) < 72057594037927936 := by
  have h1 := bval_lt (r.take k)
  have h2 : 256 ^ (r.take k).length ≤ 256 ^ 7 := Nat.pow_le_pow_right (by omega) (by rw [List.length_take]; omega)
  omega
theorem bval_eight (r : List UInt8) {k : Nat} (h : k ≤ 8) : bval (r.take k) < 2 ^ 64 := by
  have h1 := bval_lt (r.take k)
  have h2 : 256 ^ (r.take k).length ≤ 256 ^ 8 := Nat.pow_le_pow_right (by omega) (by rw [List.length_take]; omega)
  omega
def RTake7Rel (r : List UInt8) (K : Nat) (v i : Value) : Prop := ∃ (k : Nat) (U : Int), k ≤ K ∧ i = .int .i64 (k : Int) ∧ v = .int .u64 U ∧ U = ((bval (r.take k) : Nat) : Int)
set_option maxHeartbeats 4000000 in
set_option maxRecDepth 100000 in
theorem rtake7_own (l : List UInt8) (v : Value) (s : Bool) (w : World) (hv : IsB l v w) (hb : l.length ≤ 1000000) :
    Calls Tryz.prog 57 #[v, .bool s] w (RetT7O w (etake l s)) := by
  have HV := Lib.hid hv
  obtain ⟨A, c, rfl, hA, hnc, hcm, hl⟩ := hv
  obtain ⟨n, hn⟩ : ∃ n, n = l.length := ⟨_, rfl⟩
  rw [← hn] at hA hnc hb HV ⊢
  have hci : (c : Int) ≤ 9223372036854775807 := by unfold maxLen at hcm; omega
  have HN := Lib.hid hn
  by_cases h0 : n = 0
  · subst h0
    obtain rfl : l = [] := List.eq_nil_of_length_eq_zero hn.symm
    have hE := Lib.hid (etake_nil s)
    clear hn hl hcm hA hnc
    go_enter Tryz.func57, Tryz.ntmps57
    go_wp2
    try simp only [Exit.inBlock, Exit.then]
    refine bodyPost_ret (results_tmp4 rfl _ _ _) rfl ?_
    rw [hE.out]
    exact RetT7O.no (Below.refl _ _)
  · have h0i : ((n : Int) == 0) = false := by simp; omega
    have h0l : 0 < l.length := by omega
    obtain ⟨ad, rfl, hadlt, hcell⟩ := hl.cell (k := 0) (by rw [List.length_map]; exact h0l)
    obtain ⟨B, hB⟩ : ∃ B : Nat, B = l[0].toNat := ⟨_, rfl⟩
    have hB8 : B < 256 := by rw [hB]; exact UInt8.toNat_lt _
    have hc0 : w.cell? ad = some (.int .u8 (B : Int)) := by
      have h1 : ad.add 0 = ad := by unfold Addr.add; split <;> simp_all
      rw [← h1, hcell, List.getElem_map, hB]; rfl
    have HB := Lib.hid hB
    have hn0 : (0 : Int) < (n : Int) := by omega
    clear hcell hB
    by_cases h64 : 64 ≤ B
    · have h64i : (64 : Int) ≤ (B : Int) := by omega
      have hE := Lib.hid (etake_big (s := s) h0l (by rw [← HB.out]; exact h64))
      clear hn hl hcm hA
      go_enter Tryz.func57, Tryz.ntmps57
      go_wp2
      try simp only [Exit.inBlock, Exit.then]
      refine bodyPost_ret (results_tmp4 rfl _ _ _) rfl ?_
      rw [hE.out]
      exact RetT7O.no (Below.refl _ _)
    · have h64i : ¬ (64 : Int) ≤ (B : Int) := by omega
      obtain ⟨K, hK⟩ : ∃ K, K = B / 8 + 1 := ⟨_, rfl⟩
      obtain ⟨T, hT⟩ : ∃ T, T = B % 8 + 3 := ⟨_, rfl⟩
      have hKi : (B : Int) / 8 + 1 = (K : Int) := by omega
      have hTi : (B : Int) % 8 + 3 = (T : Int) := by omega
      have hK8 : K ≤ 8 := by omega
      have hK1 : 1 ≤ K := by omega
      have hT10 : T ≤ 10 := by omega
      have hT3 : 3 ≤ T := by omega
      have HK := Lib.hid (show K = l[0].toNat / 8 + 1 by rw [← HB.out]; exact hK)
      have HT := Lib.hid (show T = l[0].toNat % 8 + 3 by rw [← HB.out]; exact hT)
      by_cases hs : n < K + 1
      · have hsi : (n : Int) < (K : Int) + 1 := by omega
        have hE := Lib.hid (etake_short (s := s) h0l HK.out (by rw [← HN.out]; exact hs))
        clear hn hl hcm hA hK hT
        go_enter Tryz.func57, Tryz.ntmps57
        go_wp2
        try simp only [Exit.inBlock, Exit.then]
        refine bodyPost_ret (results_tmp4 rfl _ _ _) rfl ?_
        rw [hE.out]
        exact RetT7O.no (Below.refl _ _)
      · have hsi : ¬ (n : Int) < (K : Int) + 1 := by omega
        have HLi := Lib.hid hl
        have HF := Lib.hid fun (W : World) (h : Below w.heap.size w W) => from_named (P := Tryz.prog) elemB (k := K + 1) (by omega) hnc hcm hn.symm (hl.below h) hA
        have HI : Hid (IsB (l.take (K + 1)) (.slice (some ad) (K + 1) c) w) := Lib.hid ⟨some ad, c, by rw [List.length_take, ← hn]; congr 1; omega, fun h => by simp at h, by rw [List.length_take]; omega, hcm, by rw [List.map_take]; exact hl.take _⟩
        clear hn hl hcm hA hK hT
        go_enter Tryz.func57, Tryz.ntmps57
        go_wp2
        go_loop [10, 11] (RTake7Rel (l.drop 1) K) (fun _ i => K - (intOf i).toNat)
        case atStart => exact ⟨0, 0, by omega, rfl, rfl, by simp [bval]⟩
        case round =>
          obtain ⟨k, U, hk, rfl, rfl, hU⟩ := hrel
          have HU := Lib.hid hU
          clear hKi hTi
          by_cases hlt : k < K
          · have hU0 : 0 ≤ U := by omega
            have hU7 : U < 72057594037927936 := by rw [hU]; exact bval_seven _ (by omega)
            have hkl : k + 1 < l.length := by have := HN.out; omega
            obtain ⟨_, hAd, _, hcell⟩ := HLi.out.cell (k := k + 1) (by rw [List.length_map]; exact hkl)
            injection hAd with hAd
            subst hAd
            obtain ⟨y, hy⟩ : ∃ y : Nat, y = l[k + 1].toNat := ⟨_, rfl⟩
            have hy8 : y < 256 := by rw [hy]; exact UInt8.toNat_lt _
            have hcy : w.cell? (ad.add (k + 1)) = some (.int .u8 (y : Int)) := by rw [hcell, List.getElem_map, hy]; rfl
            have hkn : (k : Int) + 1 < (n : Int) := by omega
            have hcy2 : w.cell? ⟨ad.block, ad.off + (k + 1), none⟩ = some (.int .u8 (y : Int)) := by simpa [Addr.add] using hcy
            have HY := Lib.hid hy
            clear hcell hy hU
            go_wp2
            go_round
            case rel =>
              refine ⟨k + 1, 256 * U + y, by omega, by go_num, rfl, ?_⟩
              rw [bval_at _ _ (by rw [List.length_drop]; omega), List.getElem_drop, HU.out, HY.out]
              simp [Nat.add_comm]
            case measure => simp [intOf]; omega
          · obtain rfl : K = k := by omega
            obtain ⟨u, hu⟩ : ∃ u, u = bval ((l.drop 1).take K) := ⟨_, rfl⟩
            have hu64 : u < 2 ^ 64 := by rw [hu]; exact bval_eight _ hK8
            rw [← hu] at hU
            have HMd := Lib.hid fun W => rmade7_any U s W (by omega) (by omega)
            rw [show U.toNat = u by omega] at HMd
            obtain ⟨X, hX⟩ : ∃ X, X = (emade u s).getD 0 := ⟨_, rfl⟩
            obtain ⟨ok, hok⟩ : ∃ ok, ok = (emade u s).isSome := ⟨_, rfl⟩
            rw [← hX, ← hok] at HMd
            have hXb : -9223372036854775808 ≤ X ∧ X ≤ 9223372036854775807 := by
              cases he : emade u s with
              | none => rw [hX, he]; simp
              | some x => rw [hX, he]; exact emade_bd hu64 he
            have HPt := Lib.hid fun W => rput7_any X T s W hXb.1 hXb.2
            have hKl : K + 1 ≤ l.length := by have := HN.out; omega
            cases ok with
            | false =>
              have hE := Lib.hid (etake_none (s := s) h0l HK.out hu (.inl (by simpa using hok.symm)))
              obtain ⟨p, hp⟩ : ∃ p, p = eput X T s := ⟨_, rfl⟩
              rw [← hp] at HPt
              obtain ⟨p1, p2⟩ := p
              clear hp hok hX hu hU HU hu64 hXb hKl
              go_wp2_with (go_at_call 98; refine (HMd.out _).mono ?_; rintro e w' ⟨rfl, rfl⟩)
              refine (HPt.out _).mono ?_
              rintro e w1 ⟨vc, rfl, hvc, hbw⟩
              have HVC := Lib.hid hvc
              clear hvc
              go_wp2
              refine wp_region_list [.is (.bool false), .is (.bool true), .is (.bool true), .any, .any, .is (.bool true), .is (.bool true), .any, .any, .any, .any, .any, .any, .any, .any, .is (.bool true)] [some 69, some 70, some 71, some 72, some 73, some 74, some 75, some 76, some 77, some 78, some 79, some 80, some 81, some 82, some 83, some 84] (by kernel_rfl) (by kernel_rfl) (by kernel_rfl) rfl ⟨?_, ?_, ?_, ?_, ?_, ?_, ?_, ?_, ?_, ?_, ?_, ?_, ?_, ?_, ?_, ?_, trivial⟩ ?_
              · intro ρ W1 hb1 H
                exact gives_move rfl (H.old 13 _ (by kernel_rfl) rfl) ⟨rfl, Below.refl _ _⟩
              · intro ρ W1 hb1 H
                exact gives_not rfl (H.new 69 0 (by kernel_rfl)) ⟨rfl, Below.refl _ _⟩
              · intro ρ W1 hb1 H
                exact gives_move rfl (H.new 70 1 (by kernel_rfl)) ⟨rfl, Below.refl _ _⟩
              · intro ρ W1 hb1 H d hd
                have hd' : (some 71 : Option Tmp) = some d := hd
                injection hd' with hd'
                subst hd'
                exact ⟨(fun hh => by cases hh.symm.trans (H.new 71 2 (by kernel_rfl))), fun _ => trivial⟩
              · intro ρ W1 hb1 H d hd
                have hd' : (some 71 : Option Tmp) = some d := hd
                injection hd' with hd'
                subst hd'
                exact ⟨(fun hh => by cases hh.symm.trans (H.new 71 2 (by kernel_rfl))), fun _ => trivial⟩
              · intro ρ W1 hb1 H
                exact gives_pick_t rfl (H.new 71 2 (by kernel_rfl)) (H.const _) ⟨rfl, Below.refl _ _⟩
              · intro ρ W1 hb1 H
                exact gives_move rfl (H.new 74 5 (by kernel_rfl)) ⟨rfl, Below.refl _ _⟩
              · intro ρ W1 hb1 H d hd
                have hd' : (some 75 : Option Tmp) = some d := hd
                injection hd' with hd'
                subst hd'
                exact ⟨(fun hh => by cases hh.symm.trans (H.new 75 6 (by kernel_rfl))), fun _ => trivial⟩
              · intro ρ W1 hb1 H d hd
                have hd' : (some 75 : Option Tmp) = some d := hd
                injection hd' with hd'
                subst hd'
                exact ⟨(fun hh => by cases hh.symm.trans (H.new 75 6 (by kernel_rfl))), fun _ => trivial⟩
              · intro ρ W1 hb1 H d hd
                have hd' : (some 75 : Option Tmp) = some d := hd
                injection hd' with hd'
                subst hd'
                exact ⟨(fun hh => by cases hh.symm.trans (H.new 75 6 (by kernel_rfl))), fun _ => trivial⟩
              · intro ρ W1 hb1 H d hd
                have hd' : (some 75 : Option Tmp) = some d := hd
                injection hd' with hd'
                subst hd'
                exact ⟨(fun hh => by cases hh.symm.trans (H.new 75 6 (by kernel_rfl))), fun _ => trivial⟩
              · intro ρ W1 hb1 H d hd
                have hd' : (some 75 : Option Tmp) = some d := hd
                injection hd' with hd'
                subst hd'
                exact ⟨(fun hh => by cases hh.symm.trans (H.new 75 6 (by kernel_rfl))), fun _ => trivial⟩
              · intro ρ W1 hb1 H d hd
                have hd' : (some 75 : Option Tmp) = some d := hd
                injection hd' with hd'
                subst hd'
                exact ⟨(fun hh => by cases hh.symm.trans (H.new 75 6 (by kernel_rfl))), fun _ => trivial⟩
              · intro ρ W1 hb1 H d hd
                have hd' : (some 75 : Option Tmp) = some d := hd
                injection hd' with hd'
                subst hd'
                exact ⟨(fun hh => by cases hh.symm.trans (H.new 75 6 (by kernel_rfl))), fun _ => trivial⟩
              · intro ρ W1 hb1 H d hd
                have hd' : (some 75 : Option Tmp) = some d := hd
                injection hd' with hd'
                subst hd'
                exact ⟨(fun hh => by cases hh.symm.trans (H.new 75 6 (by kernel_rfl))), fun _ => trivial⟩
              · intro ρ W1 hb1 H
                exact gives_pick_t rfl (H.new 75 6 (by kernel_rfl)) (H.const _) ⟨rfl, Below.refl _ _⟩
              · intro vs W1 hb1 hfs
                have f15 : vs 15 = .bool true := hfs 15 (by decide)
                clear hfs
                simp only [putAll, Nat.zero_add, Nat.reduceAdd]
                generalize vs 0 = z0
                generalize vs 1 = z1
                generalize vs 2 = z2
                generalize vs 3 = z3
                generalize vs 4 = z4
                generalize vs 5 = z5
                generalize vs 6 = z6
                generalize vs 7 = z7
                generalize vs 8 = z8
                generalize vs 9 = z9
                generalize vs 10 = z10
                generalize vs 11 = z11
                generalize vs 12 = z12
                generalize vs 13 = z13
                generalize vs 14 = z14
                simp only [f15, Act.put, List.setIfInBounds_toArray, List.set_cons_succ, List.set_cons_zero]
                clear f15
                go_wp2
                try simp only [Exit.inBlock, Exit.then]
                refine bodyPost_ret (results_tmp4 rfl _ _ _) rfl ?_
                rw [hE.out]
                exact RetT7O.no (below_then hbw hb1)
            | true =>
              have hsome : emade u s = some X := by
                cases he : emade u s with
                | none => rw [he] at hok; simp at hok
                | some x => rw [he] at hX; simp at hX; rw [hX]
              rw [eput_ok hT3 hT10 (eplain_emade hsome)] at HPt
              by_cases hq : ebytes u = K
              · have HQ : Hid ((elay u T == l.take (K + 1)) = true) := Lib.hid (by rw [beq_iff_eq]; exact (elay_same h0l HK.out HT.out hKl hu).2 hq)
                have hE := Lib.hid (etake_some (s := s) h0l HK.out (by rw [← HB.out]; omega) hKl hu hsome hq)
                rw [← HT.out] at hE
                clear hok hX hu hU HU hu64 hXb hKl hsome hq
                go_wp2_with (go_at_call 98; refine (HMd.out _).mono ?_; rintro e w' ⟨rfl, rfl⟩)
                refine (HPt.out _).mono ?_
                rintro e w1 ⟨vc, rfl, hvc, hbw⟩
                have HVC := Lib.hid hvc
                clear hvc
                go_wp2
                refine wp_region_list [.is (.bool true), .is (.bool false), .is (.bool false), .is (.int .i64 0), .is (.bool false), .is (.bool false), .is (.bool false), .bytes (elay u T), .is (.string ⟨(elay u T).toArray⟩), .is (.slice (some ad) n c), .is (.int .i64 (K : Int)), .is (.int .i64 ((K + 1 : Nat) : Int)), .is (.slice (some ad) (K + 1) c), .is (.string ⟨(l.take (K + 1)).toArray⟩), .is (.bool false), .is (.bool false)] [some 69, some 70, some 71, some 72, some 73, some 74, some 75, some 76, some 77, some 78, some 79, some 80, some 81, some 82, some 83, some 84] (by kernel_rfl) (by kernel_rfl) (by kernel_rfl) rfl ⟨?_, ?_, ?_, ?_, ?_, ?_, ?_, ?_, ?_, ?_, ?_, ?_, ?_, ?_, ?_, ?_, trivial⟩ ?_
                · intro ρ W1 hb1 H
                  exact gives_move rfl (H.old 13 _ (by kernel_rfl) rfl) ⟨rfl, Below.refl _ _⟩
                · intro ρ W1 hb1 H
                  exact gives_not rfl (H.new 69 0 (by kernel_rfl)) ⟨rfl, Below.refl _ _⟩
                · intro ρ W1 hb1 H
                  exact gives_move rfl (H.new 70 1 (by kernel_rfl)) ⟨rfl, Below.refl _ _⟩
                · intro ρ W1 hb1 H d hd
                  have hd' : (some 71 : Option Tmp) = some d := hd
                  injection hd' with hd'
                  subst hd'
                  refine ⟨fun _ => ?_, fun hne => absurd (H.new 71 2 (by kernel_rfl)) hne⟩
                  exact gives_move rfl (H.old 15 _ (by kernel_rfl) rfl) ⟨rfl, Below.refl _ _⟩
                · intro ρ W1 hb1 H d hd
                  have hd' : (some 71 : Option Tmp) = some d := hd
                  injection hd' with hd'
                  subst hd'
                  refine ⟨fun _ => ?_, fun hne => absurd (H.new 71 2 (by kernel_rfl)) hne⟩
                  exact gives_intne rfl (H.new 72 3 (by kernel_rfl)) (H.const _) ⟨rfl, Below.refl _ _⟩
                · intro ρ W1 hb1 H
                  exact gives_pick_f rfl (H.new 71 2 (by kernel_rfl)) (H.new 73 4 (by kernel_rfl)) ⟨rfl, Below.refl _ _⟩
                · intro ρ W1 hb1 H
                  exact gives_move rfl (H.new 74 5 (by kernel_rfl)) ⟨rfl, Below.refl _ _⟩
                · intro ρ W1 hb1 H d hd
                  have hd' : (some 75 : Option Tmp) = some d := hd
                  injection hd' with hd'
                  subst hd'
                  refine ⟨fun _ => ?_, fun hne => absurd (H.new 75 6 (by kernel_rfl)) hne⟩
                  exact gives_move rfl (H.old 14 _ (by kernel_rfl) rfl) ⟨HVC.out.below hb1, Below.refl _ _⟩
                · intro ρ W1 hb1 H d hd
                  have hd' : (some 75 : Option Tmp) = some d := hd
                  injection hd' with hd'
                  subst hd'
                  refine ⟨fun _ => ?_, fun hne => absurd (H.new 75 6 (by kernel_rfl)) hne⟩
                  have hB : IsB (elay u T) (ρ (.tmp 76)) W1 := H.new 76 7 (by kernel_rfl)
                  exact gives_convert rfl rfl (hB.text _ _ _ Tryz.underlying25 Tryz.underlying5 Tryz.underlying9) ⟨rfl, Below.refl _ _⟩
                · intro ρ W1 hb1 H d hd
                  have hd' : (some 75 : Option Tmp) = some d := hd
                  injection hd' with hd'
                  subst hd'
                  refine ⟨fun _ => ?_, fun hne => absurd (H.new 75 6 (by kernel_rfl)) hne⟩
                  exact gives_move rfl (H.old 0 _ (by kernel_rfl) rfl) ⟨rfl, Below.refl _ _⟩
                · intro ρ W1 hb1 H d hd
                  have hd' : (some 75 : Option Tmp) = some d := hd
                  injection hd' with hd'
                  subst hd'
                  refine ⟨fun _ => ?_, fun hne => absurd (H.new 75 6 (by kernel_rfl)) hne⟩
                  exact gives_move rfl (H.old 8 _ (by kernel_rfl) rfl) ⟨rfl, Below.refl _ _⟩
                · intro ρ W1 hb1 H d hd
                  have hd' : (some 75 : Option Tmp) = some d := hd
                  injection hd' with hd'
                  subst hd'
                  refine ⟨fun _ => ?_, fun hne => absurd (H.new 75 6 (by kernel_rfl)) hne⟩
                  exact gives_add rfl (H.new 79 10 (by kernel_rfl)) (H.const _) (by omega) (by omega) ⟨rfl, Below.refl _ _⟩
                · intro ρ W1 hb1 H d hd
                  have hd' : (some 75 : Option Tmp) = some d := hd
                  injection hd' with hd'
                  subst hd'
                  refine ⟨fun _ => ?_, fun hne => absurd (H.new 75 6 (by kernel_rfl)) hne⟩
                  exact gives_upto elemB rfl (H.new 78 9 (by kernel_rfl)) (H.new 80 11 (by kernel_rfl)) (by omega) ⟨rfl, Below.refl _ _⟩
                · intro ρ W1 hb1 H d hd
                  have hd' : (some 75 : Option Tmp) = some d := hd
                  injection hd' with hd'
                  subst hd'
                  refine ⟨fun _ => ?_, fun hne => absurd (H.new 75 6 (by kernel_rfl)) hne⟩
                  exact gives_convert rfl (H.new 81 12 (by kernel_rfl)) (textB (HI.out.below (below_then hbw hb1))) ⟨rfl, Below.refl _ _⟩
                · intro ρ W1 hb1 H d hd
                  have hd' : (some 75 : Option Tmp) = some d := hd
                  injection hd' with hd'
                  subst hd'
                  refine ⟨fun _ => ?_, fun hne => absurd (H.new 75 6 (by kernel_rfl)) hne⟩
                  exact gives_textne (a := elay u T) (b := l.take (K + 1)) rfl (H.new 77 8 (by kernel_rfl)) (H.new 82 13 (by kernel_rfl)) ⟨by rw [HQ.out]; rfl, Below.refl _ _⟩
                · intro ρ W1 hb1 H
                  exact gives_pick_f rfl (H.new 75 6 (by kernel_rfl)) (H.new 83 14 (by kernel_rfl)) ⟨rfl, Below.refl _ _⟩
                · intro vs W1 hb1 hfs
                  have f15 : vs 15 = .bool false := hfs 15 (by decide)
                  clear hfs
                  simp only [putAll, Nat.zero_add, Nat.reduceAdd]
                  generalize vs 0 = z0
                  generalize vs 1 = z1
                  generalize vs 2 = z2
                  generalize vs 3 = z3
                  generalize vs 4 = z4
                  generalize vs 5 = z5
                  generalize vs 6 = z6
                  generalize vs 7 = z7
                  generalize vs 8 = z8
                  generalize vs 9 = z9
                  generalize vs 10 = z10
                  generalize vs 11 = z11
                  generalize vs 12 = z12
                  generalize vs 13 = z13
                  generalize vs 14 = z14
                  simp only [f15, Act.put, List.setIfInBounds_toArray, List.set_cons_succ, List.set_cons_zero]
                  clear f15
                  have hbW := below_then hbw hb1
                  have hown0 : (W1.alloc (.cells #[] 5)).ownsRow w.heap.size 5 1 (.slice (some ⟨W1.heap.size, 0, none⟩) 0 0) 0 [] := World.ownsRow_made W1 #[] 0 hbW.size (by unfold maxLen; omega) (by simp)
                  have hbA : Below w.heap.size w (W1.alloc (.cells #[] 5)) := hbW.alloc hbW.size _
                  have hz := hbA.size
                  obtain ⟨q, hqq⟩ : ∃ q, q = K + 1 := ⟨_, rfl⟩
                  have HF2 := HF.out (W1.alloc (.cells #[] 5)) hbA
                  rw [← hqq] at HF2 hE
                  obtain ⟨vf, hvf, A6, c6, hv6, hA6, hc6, hm6, hl6⟩ := HF2
                  have hk1 : (K : Int) + 1 = (q : Int) := by omega
                  have hqn : q ≤ n := by omega
                  have hpl : (l.drop (q)).length = n - (q) := by rw [List.length_drop, HN.out]
                  have hpm : ((l.drop (q)).map bv).length = n - (q) := by rw [List.length_map]; exact hpl
                  have HPM := Lib.hid hpm
                  rw [hpl] at hv6 hA6
                  subst hv6
                  clear hpl hpm hqq
                  go_wp2_with (at_builtin; refine wpList_join elemB rfl _ _ rfl w.heap.size _ _ _ _ _ _ ((l.drop (q)).map bv) w rfl rfl hA6 HPM.out hl6 (bv_one _) hown0 hbA hz (by omega) (by omega) ?_)
                  intro v7 w7 hown7 hb7 _ _
                  have hI7 : OwnB w (l.drop (q)) v7 w7 := ⟨n - (q), by simpa using hown7⟩
                  have HI7 := Lib.hid hI7
                  clear hown7 hown0 hbA hz hl6 hI7 hk1
                  go_wp2
                  try simp only [Exit.inBlock, Exit.then]
                  refine bodyPost_ret (results_tmp4 rfl _ _ _) rfl ?_
                  rw [hE.out]
                  exact ⟨_, rfl, HI7.out, hb7⟩
              · have HQ : Hid ((elay u T == l.take (K + 1)) = false) := Lib.hid (by rw [beq_eq_false_iff_ne]; exact fun h => hq ((elay_same h0l HK.out HT.out hKl hu).1 h))
                have hE := Lib.hid (etake_none (s := s) h0l HK.out hu (.inr hq))
                clear hok hX hu hU HU hu64 hXb hKl hsome hq
                go_wp2_with (go_at_call 98; refine (HMd.out _).mono ?_; rintro e w' ⟨rfl, rfl⟩)
                refine (HPt.out _).mono ?_
                rintro e w1 ⟨vc, rfl, hvc, hbw⟩
                have HVC := Lib.hid hvc
                clear hvc
                go_wp2
                refine wp_region_list [.is (.bool true), .is (.bool false), .is (.bool false), .is (.int .i64 0), .is (.bool false), .is (.bool false), .is (.bool false), .bytes (elay u T), .is (.string ⟨(elay u T).toArray⟩), .is (.slice (some ad) n c), .is (.int .i64 (K : Int)), .is (.int .i64 ((K + 1 : Nat) : Int)), .is (.slice (some ad) (K + 1) c), .is (.string ⟨(l.take (K + 1)).toArray⟩), .is (.bool true), .is (.bool true)] [some 69, some 70, some 71, some 72, some 73, some 74, some 75, some 76, some 77, some 78, some 79, some 80, some 81, some 82, some 83, some 84] (by kernel_rfl) (by kernel_rfl) (by kernel_rfl) rfl ⟨?_, ?_, ?_, ?_, ?_, ?_, ?_, ?_, ?_, ?_, ?_, ?_, ?_, ?_, ?_, ?_, trivial⟩ ?_
                · intro ρ W1 hb1 H
                  exact gives_move rfl (H.old 13 _ (by kernel_rfl) rfl) ⟨rfl, Below.refl _ _⟩
                · intro ρ W1 hb1 H
                  exact gives_not rfl (H.new 69 0 (by kernel_rfl)) ⟨rfl, Below.refl _ _⟩
                · intro ρ W1 hb1 H
                  exact gives_move rfl (H.new 70 1 (by kernel_rfl)) ⟨rfl, Below.refl _ _⟩
                · intro ρ W1 hb1 H d hd
                  have hd' : (some 71 : Option Tmp) = some d := hd
                  injection hd' with hd'
                  subst hd'
                  refine ⟨fun _ => ?_, fun hne => absurd (H.new 71 2 (by kernel_rfl)) hne⟩
                  exact gives_move rfl (H.old 15 _ (by kernel_rfl) rfl) ⟨rfl, Below.refl _ _⟩
                · intro ρ W1 hb1 H d hd
                  have hd' : (some 71 : Option Tmp) = some d := hd
                  injection hd' with hd'
                  subst hd'
                  refine ⟨fun _ => ?_, fun hne => absurd (H.new 71 2 (by kernel_rfl)) hne⟩
                  exact gives_intne rfl (H.new 72 3 (by kernel_rfl)) (H.const _) ⟨rfl, Below.refl _ _⟩
                · intro ρ W1 hb1 H
                  exact gives_pick_f rfl (H.new 71 2 (by kernel_rfl)) (H.new 73 4 (by kernel_rfl)) ⟨rfl, Below.refl _ _⟩
                · intro ρ W1 hb1 H
                  exact gives_move rfl (H.new 74 5 (by kernel_rfl)) ⟨rfl, Below.refl _ _⟩
                · intro ρ W1 hb1 H d hd
                  have hd' : (some 75 : Option Tmp) = some d := hd
                  injection hd' with hd'
                  subst hd'
                  refine ⟨fun _ => ?_, fun hne => absurd (H.new 75 6 (by kernel_rfl)) hne⟩
                  exact gives_move rfl (H.old 14 _ (by kernel_rfl) rfl) ⟨HVC.out.below hb1, Below.refl _ _⟩
                · intro ρ W1 hb1 H d hd
                  have hd' : (some 75 : Option Tmp) = some d := hd
                  injection hd' with hd'
                  subst hd'
                  refine ⟨fun _ => ?_, fun hne => absurd (H.new 75 6 (by kernel_rfl)) hne⟩
                  have hB : IsB (elay u T) (ρ (.tmp 76)) W1 := H.new 76 7 (by kernel_rfl)
                  exact gives_convert rfl rfl (hB.text _ _ _ Tryz.underlying25 Tryz.underlying5 Tryz.underlying9) ⟨rfl, Below.refl _ _⟩
                · intro ρ W1 hb1 H d hd
                  have hd' : (some 75 : Option Tmp) = some d := hd
                  injection hd' with hd'
                  subst hd'
                  refine ⟨fun _ => ?_, fun hne => absurd (H.new 75 6 (by kernel_rfl)) hne⟩
                  exact gives_move rfl (H.old 0 _ (by kernel_rfl) rfl) ⟨rfl, Below.refl _ _⟩
                · intro ρ W1 hb1 H d hd
                  have hd' : (some 75 : Option Tmp) = some d := hd
                  injection hd' with hd'
                  subst hd'
                  refine ⟨fun _ => ?_, fun hne => absurd (H.new 75 6 (by kernel_rfl)) hne⟩
                  exact gives_move rfl (H.old 8 _ (by kernel_rfl) rfl) ⟨rfl, Below.refl _ _⟩
                · intro ρ W1 hb1 H d hd
                  have hd' : (some 75 : Option Tmp) = some d := hd
                  injection hd' with hd'
                  subst hd'
                  refine ⟨fun _ => ?_, fun hne => absurd (H.new 75 6 (by kernel_rfl)) hne⟩
                  exact gives_add rfl (H.new 79 10 (by kernel_rfl)) (H.const _) (by omega) (by omega) ⟨rfl, Below.refl _ _⟩
                · intro ρ W1 hb1 H d hd
                  have hd' : (some 75 : Option Tmp) = some d := hd
                  injection hd' with hd'
                  subst hd'
                  refine ⟨fun _ => ?_, fun hne => absurd (H.new 75 6 (by kernel_rfl)) hne⟩
                  exact gives_upto elemB rfl (H.new 78 9 (by kernel_rfl)) (H.new 80 11 (by kernel_rfl)) (by omega) ⟨rfl, Below.refl _ _⟩
                · intro ρ W1 hb1 H d hd
                  have hd' : (some 75 : Option Tmp) = some d := hd
                  injection hd' with hd'
                  subst hd'
                  refine ⟨fun _ => ?_, fun hne => absurd (H.new 75 6 (by kernel_rfl)) hne⟩
                  exact gives_convert rfl (H.new 81 12 (by kernel_rfl)) (textB (HI.out.below (below_then hbw hb1))) ⟨rfl, Below.refl _ _⟩
                · intro ρ W1 hb1 H d hd
                  have hd' : (some 75 : Option Tmp) = some d := hd
                  injection hd' with hd'
                  subst hd'
                  refine ⟨fun _ => ?_, fun hne => absurd (H.new 75 6 (by kernel_rfl)) hne⟩
                  exact gives_textne (a := elay u T) (b := l.take (K + 1)) rfl (H.new 77 8 (by kernel_rfl)) (H.new 82 13 (by kernel_rfl)) ⟨by rw [HQ.out]; rfl, Below.refl _ _⟩
                · intro ρ W1 hb1 H
                  exact gives_pick_f rfl (H.new 75 6 (by kernel_rfl)) (H.new 83 14 (by kernel_rfl)) ⟨rfl, Below.refl _ _⟩
                · intro vs W1 hb1 hfs
                  have f15 : vs 15 = .bool true := hfs 15 (by decide)
                  clear hfs
                  simp only [putAll, Nat.zero_add, Nat.reduceAdd]
                  generalize vs 0 = z0
                  generalize vs 1 = z1
                  generalize vs 2 = z2
                  generalize vs 3 = z3
                  generalize vs 4 = z4
                  generalize vs 5 = z5
                  generalize vs 6 = z6
                  generalize vs 7 = z7
                  generalize vs 8 = z8
                  generalize vs 9 = z9
                  generalize vs 10 = z10
                  generalize vs 11 = z11
                  generalize vs 12 = z12
                  generalize vs 13 = z13
                  generalize vs 14 = z14
                  simp only [f15, Act.put, List.setIfInBounds_toArray, List.set_cons_succ, List.set_cons_zero]
                  clear f15
                  go_wp2
                  try simp only [Exit.inBlock, Exit.then]
                  refine bodyPost_ret (results_tmp4 rfl _ _ _) rfl ?_
                  rw [hE.out]
                  exact RetT7O.no (below_then hbw hb1)
end Go.Proofs.YtnbiopihcbnkpaaGreatDoor

/- Contracts of layer 10's reference: above, pairs, based. -/











namespace Go.Proofs.YtnbiopihcbnkpaaGreatDoor

open Go.RowKit

/-- What the reference's above answers. -/
def paboveE (l : List Int) : Int × List Nat × Bool := match pups l with | none => (0, [], false) | some us => (pbase l, us, pbase l != -9223372036854775808)
def RetA (w : World) (p : Int × List Nat × Bool) (e : Ending) (w' : World) : Prop := ∃ v, e = .returned (.tuple #[.int .i64 p.1, v, .bool p.2.2]) ∧ IsV uv p.2.1 v w' ∧ Below w.heap.size w w'
def AboveRel (l : List Int) (w : World) (b i : Value) (wr : World) : Prop := ∃ k : Nat, k ≤ l.length ∧ i = .int .i64 (k : Int) ∧ b = .int .i64 ((l.take k).foldl min (l.headD 0)) ∧ wr = w
theorem pdiff_q (a b : Int) (u : Nat) (d o : Bool) (w : World) (ha : inInt a) (hb : inInt b) (h : gdiff a b = (u, d, o)) : Calls Tryz.prog 47 #[.int .i64 a, .int .i64 b] w fun e w' => e = .returned (.tuple #[.int .u64 (u : Int), .bool d, .bool o]) ∧ w = w' := by
  refine (rdiff9_any a b w ha hb).mono ?_
  rintro e w' ⟨h1, h2⟩
  rw [h] at h1
  exact ⟨h1, h2⟩
set_option maxHeartbeats 2000000 in
set_option maxRecDepth 100000 in
theorem rabove_any (l : List Int) (v : Value) (w : World) (hv : IsV iv l v w) (hl : ∀ x ∈ l, inInt x) (h1 : 1 ≤ l.length) (hb : l.length ≤ 1000000) :
    Calls Tryz.prog 49 #[v] w (RetA w (paboveE l)) := by
  have HV := Lib.hid hv
  obtain ⟨A, n, c, rfl⟩ := hv.shape
  have hn := hv.parts.1
  obtain ⟨ad, rfl, had, hc0⟩ := hv.at (k := 0) (by omega)
  have e0 : ad.add 0 = ad := by simp [Addr.add]
  rw [e0] at hc0
  obtain ⟨x0, hx0⟩ : ∃ x, x = l[0] := ⟨_, rfl⟩
  have hcx : w.cell? ad = some (.int .i64 x0) := by rw [hc0, hx0]; rfl
  have HH : Hid (l.headD 0 = x0) := Lib.hid (by rw [hx0]; cases l with | nil => simp at h1 | cons a t => rfl)
  have hbi : inInt (pbase l) := hl _ (pbase_mem h1)
  have HN := Lib.hid hn
  have HL := Lib.hid hl
  have HBI := Lib.hid hbi
  have hn1 : 1 ≤ n := by omega
  have hn0 : (0 : Int) < (n : Int) := by omega
  have hnb : n ≤ 1000000 := by omega
  clear hv hn hc0 hx0 hl h1 hb hbi e0
  go_enter Tryz.func49, Tryz.ntmps49
  go_wp2
  go_loopw [5, 6] (AboveRel l w) (fun _ i _ => n - (intOf i).toNat)
  case atStart => exact ⟨0, by omega, rfl, by rw [List.take_zero, List.foldl_nil, HH.out], rfl⟩
  case round =>
    obtain ⟨k, hk, rfl, rfl, rfl⟩ := hrel
    have hk' : k ≤ n := by have := HN.out; omega
    by_cases hlt : k < n
    · have hkl : k < l.length := by have := HN.out; omega
      have hlti : (k : Int) < (n : Int) := by omega
      obtain ⟨_, hAd, _, hcell⟩ := HV.out.at hkl
      injection hAd with hAd
      subst hAd
      obtain ⟨x, hx⟩ : ∃ x, x = l[k] := ⟨_, rfl⟩
      have hcy : wr.cell? (ad.add k) = some (.int .i64 x) := by rw [hcell, hx]; rfl
      obtain ⟨b, hbb⟩ : ∃ b, b = (l.take k).foldl min (l.headD 0) := ⟨_, rfl⟩
      rw [← hbb]
      obtain ⟨m, hm⟩ : ∃ m, m = min b x := ⟨_, rfl⟩
      have hmin : ∀ (ts : Array TypeId) (t : TypeId) (W : World), (Builtin.min_ ts t #[.int .i64 b, .int .i64 x]).run Tryz.prog W = .ok (.int .i64 m) W := fun ts t W => by
        rw [run_min_int2]
        congr 2
        split <;> omega
      have HM : Hid (m = (l.take (k + 1)).foldl min (l.headD 0)) := Lib.hid (by rw [List.take_succ_eq_append_getElem hkl, List.foldl_append, ← hbb, ← hx, hm]; rfl)
      clear hcell hx hbb hm
      go_wp2
      go_roundw
      case rel => exact ⟨k + 1, by have := HN.out; omega, by go_num, by rw [HM.out], rfl⟩
      case measure => simp [intOf]; omega
    · obtain rfl : n = k := by omega
      have hlti : ¬ (n : Int) < (n : Int) := by omega
      have HB0 : Hid ((l.take n).foldl min (l.headD 0) = pbase l) := Lib.hid (by rw [List.take_of_length_le (by have := HN.out; omega)]; rfl)
      rw [HB0.out]
      obtain ⟨b, hbb⟩ : ∃ b, b = pbase l := ⟨_, rfl⟩
      rw [← hbb]
      have HBB := Lib.hid hbb
      have hst : OmapRel (pone b) uv 53 l wr (.slice (some ⟨wr.heap.size, 0, none⟩) 0 0) (.int .i64 0) (wr.alloc (.cells #[] 53)) := ⟨0, [], by omega, rfl, rfl, own_made wr _, (Below.refl _ _).alloc (Nat.le_refl _) _⟩
      have HST := Lib.hid hst
      clear hst hbb hcx
      generalize wr = w0 at *
      go_wp2
      go_loopw [7, 8] (OmapRel (pone b) uv 53 l w0) (fun _ i _ => n - (intOf i).toNat)
      case atStart => exact HST.out
      case round =>
        obtain ⟨k, acc, hk, rfl, hacc, hown, hbw⟩ := hrel
        have hz := hbw.size
        have hal : acc.length = k := by rw [omap_len hacc, List.length_take]; omega
        have HACC := Lib.hid hacc
        have HAL := Lib.hid hal
        have hk' : k ≤ n := by have := HN.out; omega
        have HSTT := HST
        clear HST hacc
        rw [hal] at hown
        clear hal
        by_cases hlt : k < n
        · have hkl : k < l.length := by have := HN.out; omega
          have hlti : (k : Int) < (n : Int) := by omega
          obtain ⟨_, hAd, _, hcell⟩ := (HV.out.below hbw).at hkl
          injection hAd with hAd
          subst hAd
          obtain ⟨x, hx⟩ : ∃ x, x = l[k] := ⟨_, rfl⟩
          have hcy : wr.cell? (ad.add k) = some (.int .i64 x) := by rw [hcell, hx]; rfl
          have hxb : inInt x := by rw [hx]; exact HL.out _ (List.getElem_mem hkl)
          obtain ⟨u, d, o, hg⟩ : ∃ u d o, gdiff b x = (u, d, o) := ⟨_, _, _, rfl⟩
          have HD := Lib.hid (fun W => pdiff_q b x u d o W (by rw [HBB.out]; exact HBI.out) hxb hg)
          have hp : pone b x = if o = true then some u else none := by unfold pone; rw [hg]
          have HP := Lib.hid hp
          have HX := Lib.hid hx
          clear hcell hx hxb hg hp
          cases o with
          | false =>
            have hE : Hid (paboveE l = (0, [], false)) := Lib.hid (by
              have h1 : pups l = none := by
                unfold pups
                rw [← HBB.out]
                exact omap_none (x := x) (by rw [HX.out]; exact List.getElem_mem hkl) (by rw [HP.out]; rfl)
              unfold paboveE; rw [h1])
            go_wp2_with (go_at_call 47; refine (HD.out _).mono ?_; rintro e w' ⟨rfl, rfl⟩)
            refine bodyPost_ret (results_tmp3 rfl _ _ _) rfl ?_
            rw [hE.out]
            exact ⟨_, rfl, isV_nil _ _, hbw⟩
          | true =>
            have hnext : Hid (omap (pone b) (l.take (k + 1)) = some (acc ++ [u])) := Lib.hid (omap_take hkl HACC.out (by rw [← HX.out, HP.out]; rfl))
            go_wp2_with (first | (go_at_call 47; refine (HD.out _).mono ?_; rintro e w' ⟨rfl, rfl⟩) | (at_builtin; refine wpList_push elemU rfl _ _ rfl w0.heap.size _ _ _ (uv u) wr w0 rfl rfl rfl rfl hown hbw hz (by omega) (by omega) ?_))
            intro v5 w5 hown5 hb5 _ _
            have hown6 : w5.ownsRow w0.heap.size 53 1 v5 (acc ++ [u]).length ((acc ++ [u]).map uv) := by
              rw [List.length_append, List.length_singleton, List.map_append, List.map_singleton, HAL.out]
              exact hown5
            clear hown5 hown
            go_wp2
            go_roundw
            case rel => exact ⟨k + 1, _, by have := HN.out; omega, by go_num, hnext.out, hown6, hb5⟩
            case measure => simp [intOf]; omega
        · obtain rfl : n = k := by omega
          have hlti : ¬ (n : Int) < (n : Int) := by omega
          have hE : Hid (paboveE l = (b, acc, b != -9223372036854775808)) := Lib.hid (by
            have h1 := HACC.out
            rw [List.take_of_length_le (by have := HN.out; omega)] at h1
            have h2 : pups l = some acc := by unfold pups; rw [← HBB.out]; exact h1
            unfold paboveE; rw [h2, HBB.out])
          obtain ⟨t, ht⟩ : ∃ t, t = (b != -9223372036854775808) := ⟨_, rfl⟩
          rw [← ht] at hE
          have ht' := ht.symm
          have HO := Lib.hid (isV_own hown)
          have HBW := Lib.hid hbw
          clear ht hown hbw
          go_wp2
          refine bodyPost_ret (results_tmp3 rfl _ _ _) rfl ?_
          rw [hE.out]
          exact ⟨_, rfl, HO.out, HBW.out⟩

def pgaps (ps : List (Nat × Nat)) : List Int := ps.map fun q => (q.1 : Int)
def ppats (ps : List (Nat × Nat)) : List Nat := ps.map (·.2)
def RetP (w : World) (ps : List (Nat × Nat)) (e : Ending) (w' : World) : Prop := ∃ u v, e = .returned (.tuple #[u, v]) ∧ IsV iv (pgaps ps) u w' ∧ IsV uv (ppats ps) v w' ∧ Below w.heap.size w w'
theorem pst_len (w : Nat) (us : List Nat) : ∀ k, (pst w us k).1.length ≤ k + (pst w us k).2 / 255
  | 0 => by simp [pst]
  | k + 1 => by
    have ih := pst_len w us k
    have hl := pst_last w us k
    by_cases h : us.getD k 0 / 2 ^ w = 0
    · rw [pst_skip h]; omega
    · rw [pst_more h]
      simp only [List.length_append, List.length_replicate, List.length_singleton]
      omega
def PairsRel (us : List Nat) (w : Nat) (W : World) (vg vp last i : Value) (wr : World) : Prop :=
  ∃ k : Nat, k ≤ us.length ∧ i = .int .i64 (k : Int) ∧ last = .int .i64 ((pst w us k).2 : Int) ∧ wr.ownsRow W.heap.size 3 1 vg (pst w us k).1.length ((pgaps (pst w us k).1).map iv) ∧ wr.ownsRow W.heap.size 53 1 vp (pst w us k).1.length ((ppats (pst w us k).1).map uv) ∧ Below W.heap.size W wr
def PFillRel (ps : List (Nat × Nat)) (l0 j : Nat) (W : World) (vg vp last : Value) (wr : World) : Prop :=
  ∃ i : Nat, i ≤ j ∧ last = .int .i64 ((l0 + 255 * i : Nat) : Int) ∧ wr.ownsRow W.heap.size 3 1 vg (ps.length + i) ((pgaps (ps ++ List.replicate i (255, 0))).map iv) ∧ wr.ownsRow W.heap.size 53 1 vp (ps.length + i) ((ppats (ps ++ List.replicate i (255, 0))).map uv) ∧ Below W.heap.size W wr
set_option maxHeartbeats 4000000 in
set_option maxRecDepth 100000 in
theorem rpairs_any (us : List Nat) (v : Value) (W0 : Nat) (w : World) (hv : IsV uv us v w) (h64 : ∀ u ∈ us, u < 2 ^ 64) (hb : us.length ≤ 10000) (hw : W0 ≤ 64) :
    Calls Tryz.prog 50 #[v, .int .i64 (W0 : Int)] w (RetP w (ppairs W0 us)) := by
  have HV := Lib.hid hv
  obtain ⟨A, n, c, rfl⟩ := hv.shape
  have hn := hv.parts.1
  have HN := Lib.hid hn
  have H64 := Lib.hid h64
  have hnb : n ≤ 10000 := by omega
  have hst : PairsRel us W0 w (.slice (some ⟨w.heap.size, 0, none⟩) 0 0) (.slice (some ⟨w.heap.size + 1, 0, none⟩) 0 0) (.int .i64 0) (.int .i64 0) ((w.alloc (.cells #[] 3)).alloc (.cells #[] 53)) := by
    refine ⟨0, by omega, rfl, rfl, (own_made w _).alloc _, ?_, ((Below.refl _ _).alloc (Nat.le_refl _) _).alloc (by simp) _⟩
    have h := own_made (w.alloc (.cells #[] 3)) 53
    rw [show (w.alloc (.cells #[] 3)).heap.size = w.heap.size + 1 by simp] at h
    exact own_le h (by omega)
  have HST := Lib.hid hst
  clear hv hn h64 hb hst
  go_enter Tryz.func50, Tryz.ntmps50
  go_wp2
  go_loopw [6, 7, 8, 9] (PairsRel us W0 w) (fun _ _ _ i _ => n - (intOf i).toNat)
  case atStart => exact HST.out
  case round =>
    obtain ⟨k, hk, rfl, rfl, hg, hp, hbr⟩ := hrel
    have HSTT := HST
    clear HST
    have hk' : k ≤ n := by have := HN.out; omega
    have hz := hbr.size
    by_cases hlt : k < n
    · have hkl : k < us.length := by have := HN.out; omega
      have hlti : (k : Int) < (n : Int) := by omega
      obtain ⟨ad, hAd, _, hcell⟩ := (HV.out.below hbr).at hkl
      subst hAd
      obtain ⟨u, hu⟩ : ∃ u, u = us[k] := ⟨_, rfl⟩
      have hcx : wr.cell? (ad.add k) = some (.int .u64 (u : Int)) := by rw [hcell, hu]; rfl
      have hgd : us.getD k 0 = u := by rw [List.getD_eq_getElem?_getD, List.getElem?_eq_getElem hkl, hu]; rfl
      have hu64 : u < 18446744073709551616 := by rw [hu]; exact H64.out _ (List.getElem_mem hkl)
      obtain ⟨q, hq⟩ : ∃ q, q = u / 2 ^ W0 := ⟨_, rfl⟩
      have hsh : (u : Int) / 2 ^ W0 = (q : Int) := by rw [hq]; simp
      have hlast := pst_last W0 us k
      have hpl := pst_len W0 us k
      obtain ⟨last, hla⟩ : ∃ last, last = (pst W0 us k).2 := ⟨_, rfl⟩
      obtain ⟨ps, hps⟩ : ∃ ps, ps = (pst W0 us k).1 := ⟨_, rfl⟩
      rw [← hla] at hlast hpl
      rw [← hps] at hg hp hpl
      rw [← hla]
      have hplb : ps.length ≤ 20000 := by omega
      have HLA := Lib.hid hla
      have HPS := Lib.hid hps
      have HGD := Lib.hid hgd
      have HQ := Lib.hid hq
      clear hcell hu hgd hu64 hq hla hps hpl
      by_cases hq0 : q = 0
      · have HSK : Hid (pst W0 us (k + 1) = pst W0 us k) := Lib.hid (pst_skip (by rw [HGD.out, ← HQ.out, hq0]))
        have hrel : PairsRel us W0 w u6 u7 (.int .i64 (last : Int)) (.int .i64 ((k : Int) + 1)) wr := ⟨k + 1, hkl, by rw [Int.natCast_add]; rfl, by rw [HSK.out, HLA.out], by rw [HSK.out, ← HPS.out]; exact hg, by rw [HSK.out, ← HPS.out]; exact hp, hbr⟩
        have HREL := Lib.hid hrel
        have hsz : (u : Int) / 2 ^ W0 = 0 := by rw [hsh, hq0]; rfl
        clear hrel hsh hg hp hbr hq0
        go_wp2
        go_roundw
        case rel => exact HREL.out
        case measure => simp [intOf]; omega
      · obtain ⟨j, hj⟩ : ∃ j, j = (k - last - 1) / 255 := ⟨_, rfl⟩
        have HMO : Hid (pst W0 us (k + 1) = (ps ++ (List.replicate j (255, 0) ++ [(k - last - 255 * j, q)]), k)) := Lib.hid (by rw [pst_more (by rw [HGD.out, ← HQ.out]; exact hq0), ← HLA.out, ← HPS.out, ← hj, HGD.out, ← HQ.out])
        have hq1 : ((q : Int) == 0) = false := by rw [beq_eq_false_iff_ne]; omega
        have hst : PFillRel ps last j w u6 u7 (.int .i64 (last : Int)) wr := ⟨0, by omega, rfl, by simpa using hg, by simpa using hp, hbr⟩
        have HST := Lib.hid hst
        have HJ := Lib.hid hj
        have hjb : j ≤ 10000 := by omega
        clear hst hg hp hbr hj hq0
        go_wp2
        clear hcx
        go_loopw [6, 7, 8] (PFillRel ps last j w) (fun _ _ l _ => k - (intOf l).toNat)
        case atStart => exact HST.out
        case round =>
          obtain ⟨i, hi, rfl, hg, hp, hbr⟩ := hrel
          have HSTT2 := HST
          clear HST
          have hz := hbr.size
          obtain ⟨L, hL⟩ : ∃ L, L = last + 255 * i := ⟨_, rfl⟩
          rw [← hL]
          obtain ⟨d, hd⟩ : ∃ d, d = k - L := ⟨_, rfl⟩
          have hLk : L ≤ k := by have := HJ.out; omega
          have hdi : (k : Int) - (L : Int) = (d : Int) := by omega
          have hdw : IntKind.i64.wrap (d : Int) = (d : Int) := by rw [IntKind.wrap_i64]; omega
          have HL := Lib.hid hL
          have HD := Lib.hid hd
          clear hL hd
          by_cases hij : i < j
          · have hd5 : (255 : Int) < (d : Int) := by have := HJ.out; have := HL.out; have := HD.out; omega
            have hLw : IntKind.i64.wrap ((L : Int) + 255) = (L : Int) + 255 := by rw [IntKind.wrap_i64]; omega
            go_wp2_with (at_builtin; refine wpList_push elemI rfl _ _ rfl w.heap.size _ _ _ (.int .i64 255) wr w rfl rfl rfl rfl hg hbr hz (by omega) (by omega) ?_)
            intro v5 w5 hg5 hb5 hgr5 _
            have hp5 := own_other hp hg (by decide) hgr5
            have hz5 := hb5.size
            clear hp hg hgr5
            go_wp2_with (at_builtin; refine wpList_push elemU rfl _ _ rfl w.heap.size _ _ _ (.int .u64 0) w5 w rfl rfl rfl rfl hp5 hb5 hz5 (by omega) (by omega) ?_)
            intro v6 w6 hp6 hb6 hgr6 _
            have hg6 := own_other hg5 hp5 (by decide) hgr6
            have hrel : PFillRel ps last j w v5 v6 (.int .i64 ((L : Int) + 255)) w6 := by
              refine ⟨i + 1, hij, ?_, ?_, ?_, hb6⟩
              · congr 1; have := HL.out; omega
              · rw [List.replicate_succ', ← List.append_assoc, pgaps, List.map_append, List.map_append]
                exact hg6
              · rw [List.replicate_succ', ← List.append_assoc, ppats, List.map_append, List.map_append]
                exact hp6
            have HREL := Lib.hid hrel
            clear hp6 hg6 hp5 hg5 hrel hb6 hb5 hgr6
            go_wp2
            go_roundw
            case rel => exact HREL.out
            case measure => simp [intOf]; have := HL.out; omega
          · obtain rfl : i = j := by omega
            have hd5 : ¬ (255 : Int) < (d : Int) := by have := HJ.out; have := HL.out; have := HD.out; omega
            go_wp2_with (at_builtin; refine wpList_push elemI rfl _ _ rfl w.heap.size _ _ _ (.int .i64 (d : Int)) wr w rfl rfl rfl rfl hg hbr hz (by omega) (by omega) ?_)
            intro v5 w5 hg5 hb5 hgr5 _
            have hp5 := own_other hp hg (by decide) hgr5
            have hz5 := hb5.size
            clear hp hg hgr5
            go_wp2_with (at_builtin; refine wpList_push elemU rfl _ _ rfl w.heap.size _ _ _ (.int .u64 (q : Int)) w5 w rfl rfl rfl rfl hp5 hb5 hz5 (by omega) (by omega) ?_)
            intro v6 w6 hp6 hb6 hgr6 _
            have hg6 := own_other hg5 hp5 (by decide) hgr6
            have hrel : PairsRel us W0 w v5 v6 (.int .i64 (k : Int)) (.int .i64 ((k : Int) + 1)) w6 := by
              have hdd : k - last - 255 * i = d := by have := HL.out; have := HD.out; omega
              have hlen : (ps ++ (List.replicate i (255, 0) ++ [(d, q)])).length = ps.length + i + 1 := by simp; omega
              refine ⟨k + 1, hkl, by rw [Int.natCast_add]; rfl, by rw [HMO.out], ?_, ?_, hb6⟩
              · rw [HMO.out, hdd]
                dsimp only
                rw [hlen, ← List.append_assoc, pgaps, List.map_append, List.map_append]
                exact hg6
              · rw [HMO.out, hdd]
                dsimp only
                rw [hlen, ← List.append_assoc, ppats, List.map_append, List.map_append]
                exact hp6
            have HREL := Lib.hid hrel
            clear hp6 hg6 hp5 hg5 hrel hb6 hb5 hgr6
            go_wp2
            go_roundw
            case rel => exact HREL.out
            case measure => simp [intOf]; omega
    · obtain rfl : n = k := by omega
      have hlti : ¬ (n : Int) < (n : Int) := by omega
      have HE : Hid ((pst W0 us n).1 = ppairs W0 us) := Lib.hid (by unfold ppairs; rw [HN.out])
      rw [HE.out] at hg hp
      have HG := Lib.hid (isV_own hg)
      have HP := Lib.hid (isV_own hp)
      have HBR := Lib.hid hbr
      clear hg hp hbr
      go_wp2
      go_ret2
      exact ⟨_, _, rfl, HG.out, HP.out, HBR.out⟩
theorem be_get : ∀ (m N j : Nat) (h : j < (be m N).length), (be m N)[j] = UInt8.ofNat (N / 256 ^ (m - 1 - j) % 256)
  | m + 1, N, 0, _ => by simp [be]
  | m + 1, N, j + 1, h => by
    have h' : j < (be m N).length := by simpa [be] using h
    have := be_get m N j h'
    simp only [be, List.getElem_cons_succ]
    rw [this, show m + 1 - 1 - (j + 1) = m - 1 - j by omega]
/-- The highest byte bears the sign. -/
theorem be_signed {n S b0 : Nat} (h1 : 1 ≤ n) (hS : S < 2 ^ (8 * n - 1)) (hb : b0 = S / 256 ^ (n - 1) % 256) : b0 < 128 ∧ (be n S).set 0 (UInt8.ofNat (b0 + 128)) = be n (S + 2 ^ (8 * n - 1)) := by
  have hp : 2 ^ (8 * n - 1) = 128 * 256 ^ (n - 1) := by rw [p256, show 8 * n - 1 = 7 + 8 * (n - 1) by omega, Nat.pow_add]
  have hpos : 0 < 256 ^ (n - 1) := Nat.pow_pos (by omega)
  have hlt : S / 256 ^ (n - 1) < 128 := by rw [Nat.div_lt_iff_lt_mul hpos, ← hp]; exact hS
  have hb1 : b0 < 128 := by rw [hb]; exact Nat.lt_of_le_of_lt (Nat.mod_le _ _) hlt
  refine ⟨hb1, eq_be (by rw [List.length_set, be_len]) ?_⟩
  have hl : 0 < (be n S).length := by rw [be_len]; omega
  have h2 := bval_set (be n S) 0 (UInt8.ofNat (b0 + 128)) hl
  rw [be_get n S 0 hl, be_len, Nat.sub_zero, ← hb] at h2
  have e1 : (UInt8.ofNat b0).toNat = b0 := byte_low (by omega)
  have e2 : (UInt8.ofNat (b0 + 128)).toNat = b0 + 128 := byte_low (by omega)
  have h3 : bval (be n S) = S := by
    rw [bval_be, Nat.mod_eq_of_lt]
    rw [p256, show 8 * n = (8 * n - 1) + 1 by omega, Nat.pow_succ]
    omega
  rw [e1, e2, h3, Nat.add_mul] at h2
  rw [hp]
  omega
def BasedRel (n S : Nat) (w : World) (v i : Value) (wr : World) : Prop :=
  ∃ j : Nat, j ≤ n ∧ i = .int .i64 ((n : Int) - 1 - (j : Int)) ∧ wr.ownsRow w.heap.size 5 1 v j (((be n S).take j).map bv) ∧ Below w.heap.size w wr
set_option maxHeartbeats 2000000 in
set_option maxRecDepth 100000 in
theorem rbased_any (base : Int) (w : World) (hb : inInt base) (hne : base ≠ -9223372036854775808) : Calls Tryz.prog 51 #[.int .i64 base] w (RetOwn w (pbased base)) := by
  obtain ⟨hs, hlt⟩ := psize_base hb hne
  obtain ⟨n1, n8, hS8⟩ := pn_bd hlt
  obtain ⟨S, hS⟩ : ∃ S, S = psize base := ⟨_, rfl⟩
  obtain ⟨n, hn⟩ : ∃ n, n = pn base := ⟨_, rfl⟩
  obtain ⟨f, hf⟩ : ∃ f, f = decide (base < 0) := ⟨_, rfl⟩
  have hg : gdiff 0 base = (S, f, true) := by
    unfold inInt at hb
    rw [hS, hf]
    unfold psize
    rcases gdiff_cases 0 base with ⟨_, k⟩ | ⟨k1, _, k⟩ | ⟨k1, _, k⟩
    · omega
    · rw [k, decide_eq_true k1]
    · rw [k, decide_eq_false (by omega)]
  have HD := Lib.hid (fun W => pdiff_q 0 base S f true W ⟨by omega, by omega⟩ hb hg)
  have hpb : pbased base = be n (S + if f = true then 2 ^ (8 * n - 1) else 0) := by
    unfold pbased
    rw [← hS, ← hn]
    congr 2
    rw [hf]
    by_cases h : base < 0
    · rw [if_pos h, if_pos (by simpa using h)]
    · rw [if_neg h, if_neg (by simpa using h)]
  obtain ⟨B, hB⟩ : ∃ B, B = wbits S := ⟨_, rfl⟩
  have HBI := Lib.hid (fun W => rbits_any S W (by rw [hS]; show psize base < 18446744073709551616; omega))
  rw [← hB] at HBI
  obtain ⟨Q, hQ⟩ : ∃ Q, Q = B / 8 := ⟨_, rfl⟩
  have hnq : n = Q + 1 := by rw [hn, hQ, hB, hS]; rfl
  have hBq : (B : Int) / 8 = (Q : Int) := by omega
  rw [← hn] at n1 n8 hS8
  rw [← hS] at hS8
  have HPB := Lib.hid hpb
  have HS8 := Lib.hid hS8
  have hQ8 : Q ≤ 7 := by omega
  have hst : BasedRel n S w (.slice (some ⟨w.heap.size, 0, none⟩) 0 0) (.int .i64 (Q : Int)) (w.alloc (.cells #[] 5)) := ⟨0, by omega, by congr 1; omega, by simpa using own_made w 5, (Below.refl _ _).alloc (Nat.le_refl _) _⟩
  have HST := Lib.hid hst
  have HNQ := Lib.hid hnq
  clear hs hlt hS hn hf hg hpb hB hQ hnq hS8 hst hb hne
  go_enter Tryz.func51, Tryz.ntmps51
  go_wp2_with (first | (go_at_call 47; refine (HD.out _).mono ?_; rintro e w' ⟨rfl, rfl⟩) | (go_at_call 41; refine (HBI.out _).mono ?_; rintro e w' ⟨rfl, rfl⟩))
  go_loopw [7, 8] (BasedRel n S w) (fun _ i _ => (intOf i + 1).toNat)
  case atStart => exact HST.out
  case round =>
    obtain ⟨j, hj, rfl, hown, hbr⟩ := hrel
    have HSTT := HST
    clear HST
    have hz := hbr.size
    by_cases hlt : j < n
    · obtain ⟨I, hI⟩ : ∃ I, I = n - 1 - j := ⟨_, rfl⟩
      rw [show (n : Int) - 1 - (j : Int) = (I : Int) by omega]
      have hI7 : I ≤ 7 := by omega
      obtain ⟨T, hT⟩ : ∃ T, T = S / 2 ^ (8 * I) := ⟨_, rfl⟩
      obtain ⟨M, hM⟩ : ∃ M, M = 8 * I := ⟨_, rfl⟩
      have hMi : 8 * (I : Int) = (M : Int) := by omega
      have hMw : IntKind.i64.wrap (M : Int) = (M : Int) := by rw [IntKind.wrap_i64]; omega
      have hsh : (S : Int) / 2 ^ M = (T : Int) := by rw [hT, hM]; simp
      obtain ⟨C, hC⟩ : ∃ C, C = T % 256 := ⟨_, rfl⟩
      have hCw : IntKind.u8.wrap (T : Int) = (C : Int) := by rw [IntKind.wrap_u8]; omega
      have hTm : (T : Int) % 256 = (C : Int) := by omega
      have hjl : j < (be n S).length := by rw [be_len]; exact hlt
      have hnx : (be n S).take (j + 1) = (be n S).take j ++ [UInt8.ofNat C] := by rw [List.take_succ_eq_append_getElem hjl, be_get, ← hI, p256, ← hT, ← hC]
      have hbv : Value.int .u8 (C : Int) = bv (UInt8.ofNat C) := bv_low7 (by omega)
      have HNX := Lib.hid hnx
      have HBV := Lib.hid hbv
      have hM64 : M < 64 := by omega
      have hI0 : (0 : Int) ≤ (I : Int) := by omega
      have HI := Lib.hid hI
      clear hT hC hnx hbv hjl hI hM
      go_wp2_with (at_builtin; go_must (refine wpList_push elemB rfl _ _ rfl w.heap.size _ _ _ (.int .u8 (C : Int)) wr w rfl rfl rfl rfl hown hbr hz (by omega) (by omega) ?_))
      intro v5 w5 hown5 hb5 _ _
      have hrel : BasedRel n S w v5 (.int .i64 ((I : Int) - 1)) w5 := ⟨j + 1, hlt, by congr 1; have := HI.out; omega, by rw [HNX.out, List.map_append, List.map_singleton, ← HBV.out, List.map_take]; exact hown5, hb5⟩
      have HREL := Lib.hid hrel
      have hIw : IntKind.i64.wrap ((I : Int) - 1) = (I : Int) - 1 := by rw [IntKind.wrap_i64]; omega
      clear hrel hown5 hown hb5
      go_wp2
      go_roundw
      case rel => exact HREL.out
      case measure => simp [intOf]
    · obtain rfl : n = j := by omega
      rw [show (n : Int) - 1 - (n : Int) = -1 by omega]
      rw [List.take_of_length_le (by rw [be_len]; omega)] at hown
      cases f with
      | false =>
        have HE : Hid (pbased base = be n S) := Lib.hid (by rw [HPB.out]; rfl)
        have HO := Lib.hid hown
        clear hown
        go_wp2
        go_ret
        rw [HE.out]
        exact ⟨_, rfl, by rw [be_len]; exact HO.out, hbr⟩
      | true =>
        have HE : Hid (pbased base = be n (S + 2 ^ (8 * n - 1))) := Lib.hid (by rw [HPB.out]; rfl)
        obtain ⟨b0, hb0⟩ : ∃ b0, b0 = S / 256 ^ (n - 1) % 256 := ⟨_, rfl⟩
        obtain ⟨hb1, hbe⟩ := be_signed n1 HS8.out hb0
        obtain ⟨g, cap, hv, hgw⟩ : ∃ g cap, u7 = .slice (some ⟨g, 0, none⟩) n cap ∧ w.heap.size ≤ g := by
          rcases hown.2 with ⟨_, h0⟩ | ⟨g, cap, _, h, hg, _⟩
          · omega
          · exact ⟨g, cap, h, hg⟩
        subst hv
        have hc0 : wr.cell? ⟨g, 0, none⟩ = some (.int .u8 (b0 : Int)) := by
          rw [hown.cellAt 0 (by omega), List.getElem?_map, List.getElem?_eq_getElem (by rw [be_len]; omega), be_get, Nat.sub_zero, ← hb0]
          show some (bv (UInt8.ofNat b0)) = _
          rw [← bv_low7 (by omega)]
        have hf0 := hown.frozenAt 0
        obtain ⟨C, hC⟩ : ∃ C, C = b0 + 128 := ⟨_, rfl⟩
        have hCi : (b0 : Int) + 128 = (C : Int) := by omega
        have hCw : IntKind.u8.wrap (C : Int) = (C : Int) := by rw [IntKind.wrap_u8]; omega
        have hst := (hown.stored 0 (.int .u8 (C : Int))).1
        have hmap : ((be n S).map bv).set 0 (.int .u8 (C : Int)) = (be n (S + 2 ^ (8 * n - 1))).map bv := by rw [bv_low7 (by omega), ← List.map_set, hC, hbe]
        rw [hmap] at hst
        have HO := Lib.hid hst
        have HB := Lib.hid (hbr.setCell (p := ⟨g, 0, none⟩) hgw (.int .u8 (C : Int)))
        have hn0 : (0 : Int) < (n : Int) := by omega
        clear hst hmap hown hb0 hbe hC hbr
        go_wp2
        go_ret
        rw [HE.out]
        exact ⟨_, rfl, by rw [be_len]; exact HO.out, HB.out⟩
end Go.Proofs.YtnbiopihcbnkpaaGreatDoor

/- The contract of layer 9's reference's Take. -/



namespace Go.Proofs.YtnbiopihcbnkpaaGreatDoor

open Go.RowKit

theorem rtakeInt_none {l : List UInt8} {v : Value} {w : World} (s : Bool) (h : IsB l v w) (hl : l.length ≤ 1000000) (hn : vtint l s = none) : Calls Tryz.prog 97 #[v, .bool s] w fun e w' => ∃ r, e = .returned (.tuple #[.int .i64 0, r, .int .i64 2]) ∧ Below w.heap.size w w' := by
  refine (rtakeInt_isB s h hl).mono fun e w' h => ?_
  obtain ⟨r, h1, _, h3⟩ := h.parts
  rw [hn] at h1
  exact ⟨r, h1, h3⟩
theorem rtakeInt_some {l r : List UInt8} {v : Value} {w : World} {x : Int} (s : Bool) (h : IsB l v w) (hl : l.length ≤ 1000000) (hn : vtint l s = some (x, r)) : Calls Tryz.prog 97 #[v, .bool s] w fun e w' => ∃ u, e = .returned (.tuple #[.int .i64 x, u, .int .i64 0]) ∧ OwnB w r u w' ∧ Below w.heap.size w w' := by
  refine (rtakeInt_isB s h hl).mono fun e w' h => ?_
  obtain ⟨u, h1, h2, h3⟩ := h.owned
  rw [hn] at h1 h2
  exact ⟨u, h1, h2, h3⟩
theorem vtint_bd {l r : List UInt8} {s : Bool} {x : Int} (h : vtint l s = some (x, r)) : inInt x ∧ r.length ≤ l.length := by
  unfold vtint at h
  cases ht : vtake l with
  | none => rw [ht] at h; cases h
  | some p =>
    obtain ⟨u, q⟩ := p
    rw [ht] at h
    obtain ⟨h1, h2⟩ := vtake_some ht
    have h3 : q.length ≤ l.length := by rw [h1, List.length_append]; omega
    cases s with
    | true =>
      injection h with h
      injection h with h4 h5
      subst h4 h5
      exact ⟨vzag_bd (by omega) (by omega), h3⟩
    | false =>
      dsimp only at h
      split at h
      · cases h
      · injection h with h
        injection h with h4 h5
        subst h4 h5
        exact ⟨⟨by omega, by omega⟩, h3⟩
theorem gwalk_last {s f : Bool} : ∀ {us : List Nat} {x : Int} {ys : List Int}, gwalk s f x us = some ys → inInt x → inInt (glast x ys)
  | [], x, ys, h, hx => by simp [gwalk] at h; subst h; exact hx
  | u :: us, x, ys, h, hx => by
    rw [gwalk] at h
    cases hn : gnext s f x u with
    | none => rw [hn] at h; cases h
    | some y =>
      rw [hn] at h
      dsimp only at h
      cases hw : gwalk s f y us with
      | none => rw [hw] at h; cases h
      | some zs =>
        rw [hw] at h
        simp at h
        subst h
        have hy : inInt y := by
          unfold gnext at hn
          split at hn
          · injection hn with hn; rw [← hn]; exact gstep_bd hx
          · cases hn
        show inInt (glast y zs)
        exact gwalk_last hw hy
theorem gtakeE_head {l : List UInt8} {s : Bool} (h : (dlook l).2.2.2.2 ≠ 0 ∨ (dlook l).1 ≠ 3 ∨ (dlook l).2.2.1 < 2) : gtakeE l s = ([], [], 2) := by unfold gtakeE; rw [if_pos h]; rfl
theorem gtakeE_in {l r : List UInt8} {s : Bool} {c m : Int} (h : dlook l = (3, c, m, r, 0)) (hm : 2 ≤ m) : gtakeE l s = gbody s c m r := by
  unfold gtakeE
  rw [h]
  dsimp only
  rw [if_neg (by omega)]
theorem gbody_none {r : List UInt8} {s : Bool} {c m : Int} (h : vtint r s = none) : gbody s c m r = ([], [], 2) := by unfold gbody; rw [h]; rfl
theorem gbody_none2 {r r1 : List UInt8} {s : Bool} {c m x : Int} (h : vtint r s = some (x, r1)) (h2 : vtint r1 true = none) : gbody s c m r = ([], [], 2) := by unfold gbody; rw [h]; dsimp only; rw [h2]; rfl
theorem gbody_some {r r1 r2 : List UInt8} {s : Bool} {c m x d : Int} {u : Nat} {f o : Bool} (h : vtint r s = some (x, r1)) (h2 : vtint r1 true = some (d, r2)) (hg : gdiff 0 d = (u, f, o)) :
    gbody s c m r = if o = true then gmore s f x u c m r2 else ([], [], 2) := by unfold gbody; rw [h]; dsimp only; rw [h2]; dsimp only; rw [hg]; rfl
theorem gmore_zero {s f : Bool} {x : Int} {u : Nat} {c m : Int} {r : List UInt8} (h : ¬ 0 < c) : gmore s f x u c m r = gend s f x (List.replicate (m - 1).toNat u) r := by unfold gmore; rw [if_neg h]
theorem gmore_bad {s f : Bool} {x : Int} {u : Nat} {c m e : Int} {r q : List UInt8} {us : List Nat} (h : 0 < c) (hu : unpacksAny r (m - 2) (wof c) = (us, q, e)) (he : e ≠ 0) : gmore s f x u c m r = ([], [], 2) := by
  unfold gmore; rw [if_pos h, hu]; dsimp only; rw [if_pos he]; rfl
theorem gmore_good {s f : Bool} {x : Int} {u : Nat} {c m : Int} {r q : List UInt8} {us : List Nat} (h : 0 < c) (hu : unpacksAny r (m - 2) (wof c) = (us, q, 0)) : gmore s f x u c m r = gend s f x (u :: us) q := by
  unfold gmore; rw [if_pos h, hu]; dsimp only; rw [if_neg (by decide)]
theorem unpacksAny_len {l q : List UInt8} {M : Nat} {W : Int} {us : List Nat} (h : unpacksAny l M W = (us, q, 0)) : us.length = M ∧ q.length ≤ l.length := by
  unfold unpacksAny at h
  split at h
  · rw [Int.toNat_natCast] at h
    unfold unpacks at h
    split at h
    · injection h with _ h; injection h with _ h; cases h
    · split at h
      · injection h with h1 h2
        injection h2 with h2 _
        subst h1 h2
        exact ⟨bnums_len _ _ _ _, by rw [List.length_drop]; omega⟩
      · injection h with _ h; injection h with _ h; cases h
  · injection h with _ h; injection h with _ h; cases h
def TTakeRel (s f : Bool) (x0 : Int) (us : List Nat) (w : World) (xv out i : Value) (wr : World) : Prop :=
  ∃ (k : Nat) (ys : List Int), k ≤ us.length ∧ xv = .int .i64 (glast x0 ys) ∧ gwalk s f x0 (us.take k) = some ys ∧ i = .int .i64 (k : Int) ∧ wr.ownsRow w.heap.size 3 1 out (k + 1) ((x0 :: ys).map iv) ∧ Below w.heap.size w wr
set_option maxHeartbeats 4000000 in
set_option maxRecDepth 100000 in
theorem rtake9_own (l : List UInt8) (v : Value) (s : Bool) (w : World) (hv : IsB l v w) (hb : l.length ≤ 1000000) :
    Calls Tryz.prog 56 #[v, .bool s] w (RetIO w (gtakeE l s)) := by
  have HLK := Lib.hid (rlook8_any l v w hv hb)
  obtain ⟨A, c, rfl, _⟩ := hv
  have hbd := dlook_bd l
  obtain ⟨K, C, M, r, x, hd⟩ : ∃ K C M r x, dlook l = (K, C, M, r, x) := ⟨_, _, _, _, _, rfl⟩
  rw [hd] at HLK hbd
  dsimp only at hbd
  obtain ⟨hK0, hK1, hC0, hC1, hM0, hM1, hr⟩ := hbd
  by_cases hx : x = 0
  · subst hx
    by_cases hK : K = 3
    · subst hK
      by_cases hM2 : M < 2
      · have hE := Lib.hid (gtakeE_head (l := l) (s := s) (.inr (.inr (by rw [hd]; exact hM2))))
        have d1 : decide (M < 2) = true := decide_eq_true hM2
        clear hd
        go_enter Tryz.func56, Tryz.ntmps56
        go_wp2_with fail
        refine HLK.out.mono ?_
        rintro e w1 ⟨rv, rfl, hrv, hb1⟩
        have HB := Lib.hid hb1
        have HRV := Lib.hid hrv
        clear hb1 hrv
        go_wp2
        go_ret3
        rw [hE.out]
        exact RetIO.nil _ HB.out
      · have d1 : decide (M < 2) = false := decide_eq_false hM2
        obtain ⟨m, rfl⟩ := Int.eq_ofNat_of_zero_le hM0
        have HE0 := Lib.hid (gtakeE_in (s := s) hd (by omega))
        have HRL : Hid (r.length ≤ 1000000) := Lib.hid (by omega)
        clear hd
        cases hv1 : vtint r s with
        | none =>
          have hE : Hid (gtakeE l s = ([], [], 2)) := Lib.hid (by rw [HE0.out, gbody_none hv1])
          have HV1 := Lib.hid hv1
          clear hv1
          go_enter Tryz.func56, Tryz.ntmps56
          go_wp2_with fail
          refine HLK.out.mono ?_
          rintro e w1 ⟨rv, rfl, hrv, hb1⟩
          have HB := Lib.hid hb1
          have HRV := Lib.hid hrv
          clear hb1 hrv
          go_wp2_with fail
          refine (rtakeInt_none s HRV.out HRL.out HV1.out).mono ?_
          rintro e w2 ⟨rv2, rfl, hb2⟩
          have HB := Lib.hid (below_then HB.out hb2)
          clear hb2
          go_wp2
          go_ret3
          rw [hE.out]
          exact RetIO.nil _ HB.out
        | some p =>
          obtain ⟨x0, r1⟩ := p
          have HV1 := Lib.hid hv1
          have HX0 := Lib.hid (vtint_bd hv1).1
          have HRL2 : Hid (r1.length ≤ 1000000) := Lib.hid (by have := (vtint_bd hv1).2; omega)
          clear hv1
          cases hv2 : vtint r1 true with
          | none =>
            have hE : Hid (gtakeE l s = ([], [], 2)) := Lib.hid (by rw [HE0.out, gbody_none2 HV1.out hv2])
            have HV2 := Lib.hid hv2
            clear hv2
            go_enter Tryz.func56, Tryz.ntmps56
            go_wp2_with fail
            refine HLK.out.mono ?_
            rintro e w1 ⟨rv, rfl, hrv, hb1⟩
            have HB := Lib.hid hb1
            have HRV := Lib.hid hrv
            clear hb1 hrv
            go_wp2_with fail
            refine (rtakeInt_some s HRV.out HRL.out HV1.out).mono ?_
            rintro e w2 ⟨rv2, rfl, hrv2, hb2⟩
            have HRV2 := Lib.hid hrv2.isB
            clear hrv2
            have HB := Lib.hid (below_then HB.out hb2)
            clear hb2
            go_wp2_with fail
            refine (rtakeInt_none true HRV2.out HRL2.out HV2.out).mono ?_
            rintro e w3 ⟨rv3, rfl, hb3⟩
            have HB := Lib.hid (below_then HB.out hb3)
            clear hb3
            go_wp2
            go_ret3
            rw [hE.out]
            exact RetIO.nil _ HB.out
          | some p =>
            obtain ⟨dd, r2⟩ := p
            have HV2 := Lib.hid hv2
            have HDI := Lib.hid (vtint_bd hv2).1
            have HRL3 : Hid (r2.length ≤ 1000000) := Lib.hid (by have := (vtint_bd hv2).2; have := HRL2.out; omega)
            clear hv2
            obtain ⟨u, f, o, hg⟩ : ∃ u f o, gdiff 0 dd = (u, f, o) := ⟨_, _, _, rfl⟩
            have HUB : Hid ((u : Int) < 9223372036854775808) := Lib.hid (by have := gdiff_lt 0 dd; rw [hg] at this; exact this)
            have HDF := Lib.hid (fun W => (rdiff9_q 0 dd u f o W ⟨by omega, by omega⟩ HDI.out hg).mono fun _ _ (h : _ ∧ _) => (⟨h.1, h.2.symm⟩ : _ ∧ W = _))
            have HGB := Lib.hid (gbody_some (c := C) (m := (m : Int)) HV1.out HV2.out hg)
            clear hg
            cases o with
            | false =>
              have hE : Hid (gtakeE l s = ([], [], 2)) := Lib.hid (by rw [HE0.out, HGB.out]; rfl)
              go_enter Tryz.func56, Tryz.ntmps56
              go_wp2_with fail
              refine HLK.out.mono ?_
              rintro e w1 ⟨rv, rfl, hrv, hb1⟩
              have HB := Lib.hid hb1
              have HRV := Lib.hid hrv
              clear hb1 hrv
              go_wp2_with fail
              refine (rtakeInt_some s HRV.out HRL.out HV1.out).mono ?_
              rintro e w2 ⟨rv2, rfl, hrv2, hb2⟩
              have HRV2 := Lib.hid hrv2.isB
              clear hrv2
              have HB := Lib.hid (below_then HB.out hb2)
              clear hb2
              go_wp2_with fail
              refine (rtakeInt_some true HRV2.out HRL2.out HV2.out).mono ?_
              rintro e w3 ⟨rv3, rfl, hrv3, hb3⟩
              have HRO3 := Lib.hid (OwnB.base HB.out.size hrv3)
              have HRV3 := Lib.hid hrv3.isB
              clear hrv3
              have HB := Lib.hid (below_then HB.out hb3)
              clear hb3
              go_wp2_with fail
              refine (HDF.out _).mono ?_
              rintro e w' ⟨rfl, rfl⟩
              go_wp2
              go_ret3
              rw [hE.out]
              exact RetIO.nil _ HB.out
            | true =>
              have HE1 : Hid (gtakeE l s = gmore s f x0 u C m r2) := Lib.hid (by rw [HE0.out, HGB.out]; rfl)
              obtain ⟨N, hN⟩ : ∃ N, N = m - 1 := ⟨_, rfl⟩
              have hNi : (m : Int) - 1 = (N : Int) := by omega
              have hN5 : N ≤ 511 := by omega
              have hN1 : 1 ≤ N := by omega
              by_cases hC : 0 < C
              · have d2 : decide ((0 : Int) < C) = true := decide_eq_true hC
                obtain ⟨N2, hN2⟩ : ∃ N2, N2 = m - 2 := ⟨_, rfl⟩
                have hN2i : (m : Int) - 2 = (N2 : Int) := by omega
                have hN25 : N2 ≤ 510 := by omega
                obtain ⟨us, q, y, hu⟩ : ∃ us q y, unpacksAny r2 (N2 : Int) (wof C) = (us, q, y) := ⟨_, _, _, rfl⟩
                have hlt := (unpacksAny_lt (l := r2) (M := (N2 : Int)) (W := wof C)).1
                rw [hu] at hlt
                dsimp only at hlt
                have HU := Lib.hid hu
                have HLTT := Lib.hid hlt
                have HOF := Lib.hid (fun X => rof_any C X (by omega) (by omega))
                obtain ⟨W, hW⟩ : ∃ W, W = wof C := ⟨_, rfl⟩
                rw [← hW] at HOF HU
                have HUN := Lib.hid (fun (u : Value) (X : World) (h : IsB r2 u X) => runpack_isO (N2 : Int) W h HRL3.out)
                rw [HU.out] at HUN
                have HWW := Lib.hid hW
                have HN2 := Lib.hid (show N = N2 + 1 by omega)
                clear hu hlt hW hN hN2
                by_cases hy : y = 0
                · subst hy
                  have hus := unpacksAny_len HU.out
                  have HUS : Hid ((u :: us).length = N) := Lib.hid (by rw [List.length_cons, hus.1, HN2.out])
                  have HULN := Lib.hid hus.1
                  have HUA : Hid (∀ z ∈ u :: us, (z : Int) < 18446744073709551616) := Lib.hid (by
                    intro z hz
                    rcases List.mem_cons.1 hz with h | h
                    · rw [h]; have := HUB.out; omega
                    · have h2 : z < 18446744073709551616 := HLTT.out z h
                      omega)
                  have hE : Hid (gtakeE l s = gend s f x0 (u :: us) q) := Lib.hid (by rw [HE1.out, gmore_good hC (by rw [hN2i, ← HWW.out]; exact HU.out)])
                  clear hus
                  go_enter Tryz.func56, Tryz.ntmps56
                  go_wp2_with fail
                  refine HLK.out.mono ?_
                  rintro e w1 ⟨rv, rfl, hrv, hb1⟩
                  have HB := Lib.hid hb1
                  have HRV := Lib.hid hrv
                  clear hb1 hrv
                  go_wp2_with fail
                  refine (rtakeInt_some s HRV.out HRL.out HV1.out).mono ?_
                  rintro e w2 ⟨rv2, rfl, hrv2, hb2⟩
                  have HRV2 := Lib.hid hrv2.isB
                  clear hrv2
                  have HB := Lib.hid (below_then HB.out hb2)
                  clear hb2
                  go_wp2_with fail
                  refine (rtakeInt_some true HRV2.out HRL2.out HV2.out).mono ?_
                  rintro e w3 ⟨rv3, rfl, hrv3, hb3⟩
                  have HRO3 := Lib.hid (OwnB.base HB.out.size hrv3)
                  have HRV3 := Lib.hid hrv3.isB
                  clear hrv3
                  have HB := Lib.hid (below_then HB.out hb3)
                  clear hb3
                  go_wp2_with fail
                  refine (HDF.out _).mono ?_
                  rintro e w' ⟨rfl, rfl⟩
                  have hownS := own_one w3 53 (uv u) (base := w3.heap.size) (Nat.le_refl _)
                  have hbS : Below w3.heap.size w3 (w3.alloc (.cells #[uv u] 53)) := (Below.refl _ _).alloc (Nat.le_refl _) _
                  have HRV4 := Lib.hid (HRV3.out.below hbS)
                  have HOS := Lib.hid hownS
                  have HBS := Lib.hid hbS
                  clear hownS hbS
                  go_wp2_with (go_at_call 28; refine (HOF.out _).mono ?_; rintro e w' ⟨rfl, rfl⟩)
                  refine (HUN.out _ _ HRV4.out).mono ?_
                  rintro e w5 ⟨u5, q5, rfl, hu5, hq5, hb5⟩
                  have hown5 := own_below HOS.out hb5
                  have hb5' := HBS.out.trans (hb5.mono HBS.out.size)
                  have hz5 := hb5'.size
                  obtain ⟨A5, n5, c5, rfl⟩ := IsV.shape (f := uv) (isV_own (f := uv) hu5)
                  obtain ⟨hn5, hA5, -, -, hl5⟩ := IsV.parts (f := uv) (isV_own (f := uv) hu5)
                  have HM5 := Lib.hid (show (us.map uv).length = n5 by rw [List.length_map]; exact hn5)
                  have hn5b : n5 ≤ 600 := by rw [← hn5, HULN.out]; omega
                  have HQ5 := Lib.hid hq5
                  clear hu5 hq5 hn5 hb5
                  go_wp2_with (at_builtin; refine wpList_join elemU rfl _ _ rfl w3.heap.size _ _ _ _ _ _ (us.map uv) w3 rfl rfl hA5 HM5.out hl5 (uv_one us) hown5 hb5' hz5 (by omega) (by omega) ?_)
                  intro v6 W0 hown6 hb6 hkeep6 _
                  have HQ0 : Hid (OwnB w q q5 W0) := Lib.hid (OwnB.base HB.out.size (HQ5.out.elim fun _ h => ⟨_, own_other (own_base HBS.out.size h) hown5 (by decide) hkeep6⟩))
                  have hI6 : IsV uv (u :: us) v6 W0 := isV_own (n := 1 + n5) hown6
                  obtain ⟨B6, n6, c6, rfl⟩ := hI6.shape
                  have hn6 := hI6.parts.1
                  rw [HUS.out] at hn6
                  subst hn6
                  obtain ⟨bd, rfl, _⟩ := hI6.at (k := 0) (by simp)
                  have HSZ := Lib.hid hI6
                  have HB := Lib.hid (below_then HB.out hb6)
                  clear hI6 hown6 hb6 hkeep6 hown5 hb5' hz5 hl5
                  have hown0 := own_one W0 3 (.int .i64 x0) (base := W0.heap.size) (Nat.le_refl _)
                  have hbo : Below W0.heap.size W0 (W0.alloc (.cells #[.int .i64 x0] 3)) := (Below.refl _ _).alloc (Nat.le_refl _) _
                  have hst : TTakeRel s f x0 (u :: us) W0 (.int .i64 x0) (.slice (some ⟨W0.heap.size, 0, none⟩) 1 1) (.int .i64 0) (W0.alloc (.cells #[.int .i64 x0] 3)) := ⟨0, [], by omega, rfl, rfl, rfl, hown0, hbo⟩
                  have HST := Lib.hid hst
                  clear hst hown0 hbo
                  go_wp2
                  go_loopw [12, 21, 22] (TTakeRel s f x0 (u :: us) W0) (fun _ _ i _ => N - (intOf i).toNat)
                  case atStart => exact HST.out
                  case round =>
                    obtain ⟨k, ys, hk, rfl, hgw, rfl, hown, hbr⟩ := hrel
                    have hz := hbr.size
                    have HBR := Lib.hid (below_then HB.out hbr)
                    have HGW := Lib.hid hgw
                    have hkN : k ≤ N := by have := HUS.out; omega
                    have hyi : inInt (glast x0 ys) := gwalk_last hgw HX0.out
                    obtain ⟨x, hx⟩ : ∃ x, x = glast x0 ys := ⟨_, rfl⟩
                    rw [← hx] at hyi ⊢
                    have HX := Lib.hid hx
                    have HXI := Lib.hid hyi
                    have HTT := Lib.hid HST
                    clear hgw hx hyi
                    by_cases hlt : k < N
                    · have hlti : (k : Int) < (N : Int) := by omega
                      have hkl : k < (u :: us).length := by have := HUS.out; omega
                      obtain ⟨_, hAd, _, hcell⟩ := (HSZ.out.below hbr).at hkl
                      injection hAd with hAd
                      subst hAd
                      obtain ⟨u', hu'⟩ : ∃ u', u' = (u :: us)[k] := ⟨_, rfl⟩
                      obtain ⟨wr', hwr⟩ : ∃ w', w' = wr := ⟨_, rfl⟩
                      rw [← hwr] at hown hbr hz HBR hcell ⊢
                      clear hwr
                      have hcx : wr'.cell? (bd.add k) = some (.int .u64 (u' : Int)) := by rw [hcell, hu']; rfl
                      have HTK : Hid ((u :: us).take (k + 1) = (u :: us).take k ++ [u']) := Lib.hid (by rw [List.take_succ_eq_append_getElem hkl, hu'])
                      have HU64 : Hid ((u' : Int) < 18446744073709551616) := Lib.hid (by rw [hu']; exact HUA.out _ (List.getElem_mem _))
                      clear hcell hu' hkl
                      have hgs := rstep9_any x (u' : Int) f wr' HXI.out (by omega) (by have := HU64.out; omega)
                      rw [Int.toNat_natCast] at hgs
                      obtain ⟨y, ok, hy⟩ : ∃ y ok, gstep x u' f = (y, ok) := ⟨_, _, rfl⟩
                      have hyb : inInt y := by have := gstep_bd (u := u') (f := f) HXI.out; rw [hy] at this; exact this
                      rw [hy] at hgs
                      have HGS := Lib.hid hgs
                      have hnx : gnext s f (glast x0 ys) u' = if ok = true ∧ (s = true ∨ 0 ≤ y) then some y else none := by unfold gnext; rw [← HX.out, hy]
                      have HNX := Lib.hid hnx
                      have HYB := Lib.hid hyb
                      clear hgs hy hyb hnx
                      by_cases hgo : ok = true ∧ (s = true ∨ 0 ≤ y)
                      · have HW2 : Hid (gwalk s f x0 ((u :: us).take (k + 1)) = some (ys ++ [y])) := Lib.hid (by rw [HTK.out, gwalk_snoc, HGW.out]; dsimp only; rw [HNX.out, if_pos hgo])
                        obtain ⟨rfl, hsy⟩ := hgo
                        have hcase : decide (y < 0) = false ∨ (decide (y < 0) = true ∧ s = true) := by
                          rcases hsy with h | h
                          · by_cases h2 : y < 0
                            · exact .inr ⟨decide_eq_true h2, h⟩
                            · exact .inl (decide_eq_false h2)
                          · exact .inl (decide_eq_false (by omega))
                        clear hsy
                        rcases hcase with hd0 | ⟨hd0, rfl⟩
                        all_goals
                          go_wp2_with (first | (go_at_call 96; refine HGS.out.mono ?_; rintro e w' ⟨rfl, rfl⟩) | (at_builtin; refine wpList_push elemI rfl _ _ rfl W0.heap.size _ _ _ (.int .i64 y) wr' W0 rfl rfl rfl rfl hown hbr hz (by omega) (by omega) ?_))
                          intro v5 w5 hown5 hb5 _ _
                          have hown6 : w5.ownsRow W0.heap.size 3 1 v5 (k + 1 + 1) ((x0 :: (ys ++ [y])).map iv) := by rw [← List.cons_append, List.map_append]; exact hown5
                          have HO6 := Lib.hid hown6
                          have HB5 := Lib.hid hb5
                          have hki : IntKind.i64.wrap ((k : Int) + 1) = (k : Int) + 1 := by rw [IntKind.wrap_i64]; omega
                          clear hown5 hown6 hown hb5
                          go_wp2
                          go_roundw
                          case rel => exact ⟨k + 1, ys ++ [y], by have := HUS.out; omega, by rw [glast_snoc], HW2.out, by rw [Int.natCast_add]; rfl, HO6.out, HB5.out⟩
                          case measure => simp [intOf]; omega
                      · have hW2 : gwalk s f x0 ((u :: us).take (k + 1)) = none := by rw [HTK.out, gwalk_snoc, HGW.out]; dsimp only; rw [HNX.out, if_neg hgo]
                        have hE2 : Hid (gtakeE l s = ([], [], 2)) := Lib.hid (by rw [hE.out]; unfold gend; rw [gwalk_take_none hW2]; rfl)
                        have hcase : ok = false ∨ (ok = true ∧ decide (y < 0) = true ∧ s = false) := by
                          cases ok with
                          | false => exact .inl rfl
                          | true =>
                            refine .inr ⟨rfl, ?_, ?_⟩
                            · exact decide_eq_true (Int.not_le.1 fun h => hgo ⟨rfl, .inr h⟩)
                            · cases s with | false => rfl | true => exact absurd ⟨rfl, .inl rfl⟩ hgo
                        clear hW2 hgo hown
                        rcases hcase with rfl | ⟨rfl, hd0, rfl⟩
                        all_goals
                          go_wp2_with (go_at_call 96; refine HGS.out.mono ?_; rintro e w' ⟨rfl, rfl⟩)
                          go_ret3
                          rw [hE2.out]
                          exact RetIO.nil _ HBR.out
                    · obtain rfl : N = k := by omega
                      have hlti : ¬ (N : Int) < (N : Int) := by omega
                      have hW2 : gwalk s f x0 (u :: us) = some ys := by have h := HGW.out; rw [List.take_of_length_le (by have := HUS.out; omega)] at h; exact h
                      have hE2 : Hid (gtakeE l s = (x0 :: ys, q, 0)) := Lib.hid (by rw [hE.out]; unfold gend; rw [hW2])
                      have HO := Lib.hid (isV_own (f := iv) (l := x0 :: ys) hown)
                      have HQ := Lib.hid (HQ0.out.below hbr)
                      clear hW2 hown hbr
                      go_wp2
                      go_ret3
                      rw [hE2.out]
                      exact ⟨_, _, rfl, HO.out, HQ.out, HBR.out⟩
                · have hE : Hid (gtakeE l s = ([], [], 2)) := Lib.hid (by rw [HE1.out, gmore_bad hC (by rw [hN2i, ← HWW.out]; exact HU.out) hy])
                  have d3 : (y != 0) = true := by simpa using hy
                  go_enter Tryz.func56, Tryz.ntmps56
                  go_wp2_with fail
                  refine HLK.out.mono ?_
                  rintro e w1 ⟨rv, rfl, hrv, hb1⟩
                  have HB := Lib.hid hb1
                  have HRV := Lib.hid hrv
                  clear hb1 hrv
                  go_wp2_with fail
                  refine (rtakeInt_some s HRV.out HRL.out HV1.out).mono ?_
                  rintro e w2 ⟨rv2, rfl, hrv2, hb2⟩
                  have HRV2 := Lib.hid hrv2.isB
                  clear hrv2
                  have HB := Lib.hid (below_then HB.out hb2)
                  clear hb2
                  go_wp2_with fail
                  refine (rtakeInt_some true HRV2.out HRL2.out HV2.out).mono ?_
                  rintro e w3 ⟨rv3, rfl, hrv3, hb3⟩
                  have HRO3 := Lib.hid (OwnB.base HB.out.size hrv3)
                  have HRV3 := Lib.hid hrv3.isB
                  clear hrv3
                  have HB := Lib.hid (below_then HB.out hb3)
                  clear hb3
                  go_wp2_with fail
                  refine (HDF.out _).mono ?_
                  rintro e w' ⟨rfl, rfl⟩
                  have hbS : Below w3.heap.size w3 (w3.alloc (.cells #[uv u] 53)) := (Below.refl _ _).alloc (Nat.le_refl _) _
                  have HRV4 := Lib.hid (HRV3.out.below hbS)
                  have HBS := Lib.hid hbS
                  clear hbS
                  go_wp2_with (go_at_call 28; refine (HOF.out _).mono ?_; rintro e w' ⟨rfl, rfl⟩)
                  refine (HUN.out _ _ HRV4.out).mono ?_
                  rintro e w5 ⟨u5, q5, rfl, hu5, hq5, hb5⟩
                  have HB := Lib.hid (below_then HB.out (HBS.out.trans (hb5.mono HBS.out.size)))
                  clear hb5
                  go_wp2
                  go_ret3
                  rw [hE.out]
                  exact RetIO.nil _ HB.out
              · have d2 : decide ((0 : Int) < C) = false := decide_eq_false hC
                have HUS : Hid ((List.replicate N u).length = N) := Lib.hid (by simp)
                have hE : Hid (gtakeE l s = gend s f x0 (List.replicate N u) r2) := Lib.hid (by rw [HE1.out, gmore_zero hC, hNi, Int.toNat_natCast])
                clear hN
                go_enter Tryz.func56, Tryz.ntmps56
                go_wp2_with fail
                refine HLK.out.mono ?_
                rintro e w1 ⟨rv, rfl, hrv, hb1⟩
                have HB := Lib.hid hb1
                have HRV := Lib.hid hrv
                clear hb1 hrv
                go_wp2_with fail
                refine (rtakeInt_some s HRV.out HRL.out HV1.out).mono ?_
                rintro e w2 ⟨rv2, rfl, hrv2, hb2⟩
                have HRV2 := Lib.hid hrv2.isB
                clear hrv2
                have HB := Lib.hid (below_then HB.out hb2)
                clear hb2
                go_wp2_with fail
                refine (rtakeInt_some true HRV2.out HRL2.out HV2.out).mono ?_
                rintro e w3 ⟨rv3, rfl, hrv3, hb3⟩
                have HRO3 := Lib.hid (OwnB.base HB.out.size hrv3)
                have HRV3 := Lib.hid hrv3.isB
                clear hrv3
                have HB := Lib.hid (below_then HB.out hb3)
                clear hb3
                go_wp2_with fail
                refine (HDF.out _).mono ?_
                rintro e w' ⟨rfl, rfl⟩
                have hbS : Below w3.heap.size w3 (w3.alloc (.cells #[uv u] 53)) := (Below.refl _ _).alloc (Nat.le_refl _) _
                have HRO4 := Lib.hid (HRO3.out.below hbS)
                have HBS := Lib.hid hbS
                have HB := Lib.hid (below_then HB.out hbS)
                clear hbS
                obtain ⟨W0, hW0⟩ : ∃ W0, W0 = w3.alloc (.cells #[.int .u64 (u : Int)] 53) := ⟨_, rfl⟩
                have hsz0 : W0.heap.size = w3.heap.size + 1 := by rw [hW0]; simp
                have HW0 := Lib.hid hW0
                have HSZ0 := Lib.hid hsz0
                rw [show uv u = .int .u64 (u : Int) from rfl, ← hW0] at HB HRO4
                clear hW0 hsz0
                have hown0 := own_one W0 3 (.int .i64 x0) (base := W0.heap.size) (Nat.le_refl _)
                have hbo : Below W0.heap.size W0 (W0.alloc (.cells #[.int .i64 x0] 3)) := (Below.refl _ _).alloc (Nat.le_refl _) _
                have hst : TTakeRel s f x0 (List.replicate N u) W0 (.int .i64 x0) (.slice (some ⟨W0.heap.size, 0, none⟩) 1 1) (.int .i64 0) (W0.alloc (.cells #[.int .i64 x0] 3)) := ⟨0, [], by omega, rfl, rfl, rfl, hown0, hbo⟩
                have HST := Lib.hid hst
                clear hst hown0 hbo
                go_wp2
                go_loopw [12, 21, 22] (TTakeRel s f x0 (List.replicate N u) W0) (fun _ _ i _ => N - (intOf i).toNat)
                case atStart => rw [← HW0.out, ← HSZ0.out]; exact HST.out
                case round =>
                  obtain ⟨k, ys, hk, rfl, hgw, rfl, hown, hbr⟩ := hrel
                  have hz := hbr.size
                  have HBR := Lib.hid (below_then HB.out hbr)
                  have HGW := Lib.hid hgw
                  have hkN : k ≤ N := by have := HUS.out; omega
                  have hyi : inInt (glast x0 ys) := gwalk_last hgw HX0.out
                  obtain ⟨x, hx⟩ : ∃ x, x = glast x0 ys := ⟨_, rfl⟩
                  rw [← hx] at hyi ⊢
                  have HX := Lib.hid hx
                  have HXI := Lib.hid hyi
                  have HTT := Lib.hid HST
                  clear hgw hx hyi
                  by_cases hlt : k < N
                  · have hlti : (k : Int) < (N : Int) := by omega
                    obtain ⟨wr', hwr⟩ : ∃ w', w' = wr := ⟨_, rfl⟩
                    rw [← hwr] at hown hbr hz HBR ⊢
                    clear hwr
                    have HTK : Hid ((List.replicate N u).take (k + 1) = (List.replicate N u).take k ++ [u]) := Lib.hid (by rw [List.take_succ_eq_append_getElem (by rw [List.length_replicate]; exact hlt), List.getElem_replicate])
                    have HU64 : Hid ((u : Int) < 9223372036854775808) := Lib.hid HUB.out
                    have hgs := rstep9_any x (u : Int) f wr' HXI.out (by omega) (by have := HU64.out; omega)
                    rw [Int.toNat_natCast] at hgs
                    obtain ⟨y, ok, hy⟩ : ∃ y ok, gstep x u f = (y, ok) := ⟨_, _, rfl⟩
                    have hyb : inInt y := by have := gstep_bd (u := u) (f := f) HXI.out; rw [hy] at this; exact this
                    rw [hy] at hgs
                    have HGS := Lib.hid hgs
                    have hnx : gnext s f (glast x0 ys) u = if ok = true ∧ (s = true ∨ 0 ≤ y) then some y else none := by unfold gnext; rw [← HX.out, hy]
                    have HNX := Lib.hid hnx
                    have HYB := Lib.hid hyb
                    clear hgs hy hyb hnx
                    by_cases hgo : ok = true ∧ (s = true ∨ 0 ≤ y)
                    · have HW2 : Hid (gwalk s f x0 ((List.replicate N u).take (k + 1)) = some (ys ++ [y])) := Lib.hid (by rw [HTK.out, gwalk_snoc, HGW.out]; dsimp only; rw [HNX.out, if_pos hgo])
                      obtain ⟨rfl, hsy⟩ := hgo
                      have hcase : decide (y < 0) = false ∨ (decide (y < 0) = true ∧ s = true) := by
                        rcases hsy with h | h
                        · by_cases h2 : y < 0
                          · exact .inr ⟨decide_eq_true h2, h⟩
                          · exact .inl (decide_eq_false h2)
                        · exact .inl (decide_eq_false (by omega))
                      clear hsy
                      rcases hcase with hd0 | ⟨hd0, rfl⟩
                      all_goals
                        go_wp2_with (first | (go_at_call 96; refine HGS.out.mono ?_; rintro e w' ⟨rfl, rfl⟩) | (at_builtin; refine wpList_push elemI rfl _ _ rfl W0.heap.size _ _ _ (.int .i64 y) wr' W0 rfl rfl rfl rfl hown hbr hz (by omega) (by omega) ?_))
                        intro v5 w5 hown5 hb5 _ _
                        have hown6 : w5.ownsRow W0.heap.size 3 1 v5 (k + 1 + 1) ((x0 :: (ys ++ [y])).map iv) := by rw [← List.cons_append, List.map_append]; exact hown5
                        have HO6 := Lib.hid hown6
                        have HB5 := Lib.hid hb5
                        have hki : IntKind.i64.wrap ((k : Int) + 1) = (k : Int) + 1 := by rw [IntKind.wrap_i64]; omega
                        clear hown5 hown6 hown hb5
                        go_wp2
                        go_roundw
                        case rel => exact ⟨k + 1, ys ++ [y], by have := HUS.out; omega, by rw [glast_snoc], HW2.out, by rw [Int.natCast_add]; rfl, HO6.out, HB5.out⟩
                        case measure => simp [intOf]; omega
                    · have hW2 : gwalk s f x0 ((List.replicate N u).take (k + 1)) = none := by rw [HTK.out, gwalk_snoc, HGW.out]; dsimp only; rw [HNX.out, if_neg hgo]
                      have hE2 : Hid (gtakeE l s = ([], [], 2)) := Lib.hid (by rw [hE.out]; unfold gend; rw [gwalk_take_none hW2]; rfl)
                      have hcase : ok = false ∨ (ok = true ∧ decide (y < 0) = true ∧ s = false) := by
                        cases ok with
                        | false => exact .inl rfl
                        | true =>
                          refine .inr ⟨rfl, ?_, ?_⟩
                          · exact decide_eq_true (Int.not_le.1 fun h => hgo ⟨rfl, .inr h⟩)
                          · cases s with | false => rfl | true => exact absurd ⟨rfl, .inl rfl⟩ hgo
                      clear hW2 hgo hown
                      rcases hcase with rfl | ⟨rfl, hd0, rfl⟩
                      all_goals
                        go_wp2_with (go_at_call 96; refine HGS.out.mono ?_; rintro e w' ⟨rfl, rfl⟩)
                        go_ret3
                        rw [hE2.out]
                        exact RetIO.nil _ HBR.out
                  · obtain rfl : N = k := by omega
                    have hlti : ¬ (N : Int) < (N : Int) := by omega
                    have hW2 : gwalk s f x0 (List.replicate N u) = some ys := by have h := HGW.out; rw [List.take_of_length_le (by have := HUS.out; omega)] at h; exact h
                    have hE2 : Hid (gtakeE l s = (x0 :: ys, r2, 0)) := Lib.hid (by rw [hE.out]; unfold gend; rw [hW2])
                    have HO := Lib.hid (isV_own (f := iv) (l := x0 :: ys) hown)
                    have HQ := Lib.hid (HRO4.out.below hbr)
                    clear hW2 hown hbr
                    go_wp2
                    go_ret3
                    rw [hE2.out]
                    exact ⟨_, _, rfl, HO.out, HQ.out, HBR.out⟩
    · have hE := Lib.hid (gtakeE_head (l := l) (s := s) (.inr (.inl (by rw [hd]; exact hK))))
      have d1 : (K != 3) = true := by simpa using hK
      clear hd
      go_enter Tryz.func56, Tryz.ntmps56
      go_wp2_with fail
      refine HLK.out.mono ?_
      rintro e w1 ⟨rv, rfl, hrv, hb1⟩
      have HB := Lib.hid hb1
      have HRV := Lib.hid hrv
      clear hb1 hrv
      go_wp2
      go_ret3
      rw [hE.out]
      exact RetIO.nil _ HB.out
  · have hE := Lib.hid (gtakeE_head (l := l) (s := s) (.inl (by rw [hd]; exact hx)))
    have d1 : (x != 0) = true := by simpa using hx
    clear hd
    go_enter Tryz.func56, Tryz.ntmps56
    go_wp2_with fail
    refine HLK.out.mono ?_
    rintro e w1 ⟨rv, rfl, hrv, hb1⟩
    have HB := Lib.hid hb1
    have HRV := Lib.hid hrv
    clear hb1 hrv
    go_wp2
    go_ret3
    rw [hE.out]
    exact RetIO.nil _ HB.out
end Go.Proofs.YtnbiopihcbnkpaaGreatDoor

/- Runs (layer 11): what each kind gives back, how long it is. -/







namespace Go.Proofs.YtnbiopihcbnkpaaGreatDoor

theorem dplain_ok {l : List Int} {s : Bool} (h : dplain l s ≠ none) : ∀ x ∈ l, s = true ∨ 0 ≤ x := by
  intro x hx
  cases s with
  | true => exact .inl rfl
  | false =>
    refine .inr (Int.not_lt.1 fun h0 => h (omap_none (x := x) hx ?_))
    unfold eplain
    rw [if_neg (by simp), if_neg (by omega)]
theorem dplain_sub {l m : List Int} {s : Bool} (h : dplain l s ≠ none) (hm : ∀ x ∈ m, x ∈ l) : dplain m s ≠ none := by
  have h1 := dplain_ok h
  intro h2
  have h0 : ∀ m : List Int, (∀ x ∈ m, s = true ∨ 0 ≤ x) → dplain m s ≠ none := by
    intro m
    induction m with
    | nil => intro _ h; cases h
    | cons x m ih =>
      intro hl h
      have h3 := ih fun y hy => hl y (List.mem_cons_of_mem _ hy)
      obtain ⟨u, hu⟩ : ∃ u, eplain x s = some u := by
        unfold eplain
        rcases hl x List.mem_cons_self with h | h
        · exact ⟨_, if_pos h⟩
        · cases s with
          | true => exact ⟨_, if_pos rfl⟩
          | false => exact ⟨x.toNat, by rw [if_neg (by simp), if_pos (by assumption)]⟩
      unfold dplain at h h3
      rw [omap, hu] at h
      cases ho : omap (eplain · s) m with
      | none => exact h3 ho
      | some us => rw [ho] at h; cases h
  exact h0 m (fun x hx => h1 x (hm x hx)) h2
theorem dheadN_first {k c m : Nat} (hk : k ≤ 3) (hc : c ≤ 31) (h1 : 1 ≤ m) (hm : m ≤ 512) : ∃ x y, dheadN k c m = [x, y] ∧ x.toNat / 64 = k := by
  obtain ⟨X, hX⟩ : ∃ X, X = 16384 * k + 512 * c + (m - 1) := ⟨_, rfl⟩
  refine ⟨UInt8.ofNat (X / 256 ^ 1 % 256), UInt8.ofNat (X / 256 ^ 0 % 256), by unfold dheadN; rw [← hX]; rfl, ?_⟩
  simp only [UInt8.toNat_ofNat', Nat.reducePow]
  omega
theorem uone_direct {c m : Nat} {r : List UInt8} {s : Bool} (hc : c ≤ 31) (h1 : 1 ≤ m) (hm : m ≤ 512) : uone (dheadN 1 c m ++ r) s = dtakeE (dheadN 1 c m ++ r) s := by
  obtain ⟨x, y, h, hx⟩ := dheadN_first (k := 1) (by omega) hc h1 hm
  rw [h, List.cons_append]
  unfold uone
  dsimp only
  rw [if_pos hx]
theorem uone_patched {c m : Nat} {r : List UInt8} {s : Bool} (hc : c ≤ 31) (h1 : 1 ≤ m) (hm : m ≤ 512) : uone (dheadN 2 c m ++ r) s = ptakeE (dheadN 2 c m ++ r) s := by
  obtain ⟨x, y, h, hx⟩ := dheadN_first (k := 2) (by omega) hc h1 hm
  rw [h, List.cons_append]
  unfold uone
  dsimp only
  rw [if_neg (by omega), if_pos hx]
theorem uone_delta {c m : Nat} {r : List UInt8} {s : Bool} (hc : c ≤ 31) (h1 : 1 ≤ m) (hm : m ≤ 512) : uone (dheadN 3 c m ++ r) s = gtakeE (dheadN 3 c m ++ r) s := by
  obtain ⟨x, y, h, hx⟩ := dheadN_first (k := 3) (by omega) hc h1 hm
  rw [h, List.cons_append]
  unfold uone
  dsimp only
  rw [if_neg (by omega), if_neg (by omega), if_pos hx]
theorem uone_repeat {u t : Nat} {r : List UInt8} {s : Bool} (hu : u < 2 ^ 64) (h3 : 3 ≤ t) (h10 : t ≤ 10) : uone (elay u t ++ r) s = (List.replicate (etake (elay u t ++ r) s).2.1.toNat (etake (elay u t ++ r) s).1, (etake (elay u t ++ r) s).2.2.1, (etake (elay u t ++ r) s).2.2.2) := by
  have h8 := ebytes_8 hu
  have h1 := ebytes_pos u
  obtain ⟨x, hx⟩ : ∃ x, x = UInt8.ofNat (8 * (ebytes u - 1) + (t - 3)) := ⟨_, rfl⟩
  have hx0 : x.toNat / 64 = 0 := by rw [hx]; simp only [UInt8.toNat_ofNat', Nat.reducePow]; omega
  have he : elay u t ++ r = x :: (be (ebytes u) u ++ r) := by unfold elay; rw [← hx]; rfl
  rw [he]
  unfold uone
  dsimp only
  rw [if_neg (by omega), if_neg (by omega), if_neg (by omega)]
theorem eputE_cases {x t : Int} {s : Bool} {b : List UInt8} (h : eput x t s = (b, 0)) : 3 ≤ t ∧ t ≤ 10 ∧ ∃ u, eplain x s = some u ∧ b = elay u t.toNat := by
  unfold eput at h
  split at h
  · injection h with _ h; cases h
  · rename_i ht
    split at h
    · injection h with _ h; cases h
    · rename_i u hu
      injection h with h _
      exact ⟨by omega, by omega, u, hu, h.symm⟩
theorem dputE_cases {l : List Int} {s : Bool} {b : List UInt8} (h : dputE l s = (b, 0)) : 1 ≤ l.length ∧ l.length ≤ 512 ∧ ∃ u, dplain l s = some u ∧ b = dlay u := by
  unfold dputE at h
  split at h
  · injection h with _ h; cases h
  · rename_i u hu
    split at h
    · injection h with _ h; cases h
    · injection h with h _
      exact ⟨by omega, by omega, u, hu, h.symm⟩
theorem gputE_cases {l : List Int} {s : Bool} {b : List UInt8} (h : gputE l s = (b, 0)) : dplain l s ≠ none ∧ 2 ≤ l.length ∧ l.length ≤ 512 ∧ ∃ us, gsizes l (gfalls l) (l.length - 1) = some us ∧ b = glay l s us := by
  unfold gputE at h
  split at h
  · injection h with _ h; cases h
  · rename_i hn
    split at h
    · injection h with _ h; cases h
    · rename_i us hu
      injection h with h _
      exact ⟨fun h2 => hn (.inl h2), Nat.not_lt.1 fun h2 => hn (.inr (.inl h2)), Nat.not_lt.1 fun h2 => hn (.inr (.inr h2)), us, hu, h.symm⟩
theorem pputE_ok {l : List Int} {W : Int} {s : Bool} {b : List UInt8} (h : pputE l W s = (b, 0)) : ∃ us, pups l = some us ∧ 1 ≤ l.length ∧ l.length ≤ 512 ∧ 0 ≤ wcode W ∧ W < 64 ∧ pbase l ≠ -9223372036854775808 ∧ (ppairs W.toNat us).length ≤ 31 ∧ pgw (ppairs W.toNat us) + ppw (ppairs W.toNat us) ≤ 64 ∧ b = play (pbase l) us W.toNat := by
  unfold pputE at h
  split at h
  · injection h with _ h; cases h
  · rename_i h1
    split at h
    · injection h with _ h; cases h
    · rename_i us hu
      split at h
      · injection h with _ h; cases h
      · rename_i h2
        injection h with h _
        refine ⟨us, hu, ?_, ?_, ?_, ?_, ?_, ?_, ?_, h.symm⟩
        · exact Nat.not_lt.1 fun h => h1 (.inr (.inl h))
        · exact Nat.not_lt.1 fun h => h1 (.inr (.inr (.inl h)))
        · exact Int.not_lt.1 fun h => h1 (.inr (.inr (.inr (.inl h))))
        · exact Int.not_le.1 fun h => h1 (.inr (.inr (.inr (.inr h))))
        · exact fun h => h2 (.inl h)
        · exact Nat.not_lt.1 fun h => h2 (.inr (.inl h))
        · exact Nat.not_lt.1 fun h => h2 (.inr (.inr (.inl h)))
theorem wof_nat (c : Nat) : ∃ W : Nat, wof (c : Int) = (W : Int) := ⟨(wof (c : Int)).toNat, by have := (wof_bd (c : Int)).1; omega⟩
/-- A run that may be gives the numbers back. -/
theorem ucand_back {l : List Int} {s : Bool} {b : List UInt8} (hl : ∀ x ∈ l, inInt x) (hp : dplain l s ≠ none) (h1 : 1 ≤ l.length) (h : (b, (0 : Int)) ∈ ucands l s) (r : List UInt8) : uone (b ++ r) s = (l, r, 0) ∧ 2 ≤ b.length := by
  have hok := dplain_ok hp
  unfold ucands ucands0 at h
  simp only [List.mem_append, List.mem_cons, List.mem_map, List.mem_range, List.not_mem_nil, or_false] at h
  rcases h with (h | h | h) | ⟨c, hc, h⟩
  · split at h
    · rename_i hs
      rw [List.mem_singleton] at h
      obtain ⟨h3, h10, u, hu, hb⟩ := eputE_cases h.symm
      obtain ⟨x, l', rfl⟩ : ∃ x l', l = x :: l' := by cases l with | nil => simp at h1 | cons x l' => exact ⟨x, l', rfl⟩
      rw [List.headD_cons] at hu
      have hx := hl x List.mem_cons_self
      have hu64 := eplain_lt hx.1 hx.2 hu
      have hrep := usame_take (x := x) (r := l') (k := (x :: l').length) (by omega)
      rw [List.take_of_length_le (Nat.le_refl _)] at hrep
      rw [Int.toNat_natCast] at hb
      have h3' : 3 ≤ (x :: l').length := by omega
      have h10' : (x :: l').length ≤ 10 := by omega
      subst hb
      refine ⟨?_, by rw [elay_len]; have := ebytes_pos u; omega⟩
      rw [uone_repeat hu64 h3' h10', etake_back hu64 h3' h10' (emade_eplain hx.1 hx.2 hu)]
      dsimp only
      rw [Int.toNat_natCast, ← hrep]
    · cases h
  · obtain ⟨_, h5, u, hu, hb⟩ := dputE_cases h.symm
    have hu64 := dplain_lt hl hu
    have hul := dplain_len hu
    subst hb
    refine ⟨?_, by unfold dlay; rw [List.length_append, dheadN_len]; omega⟩
    have h2 := dtake_back hl h1 h5 hu r
    unfold dlay at h2 ⊢
    rw [List.append_assoc] at h2 ⊢
    rw [uone_direct (dcode_int hu64).2.1 (by omega) (by omega)]
    exact h2
  · obtain ⟨_, h2', h5, us, hu, hb⟩ := gputE_cases h.symm
    have h64t : ∀ u ∈ us.tail, u < 2 ^ 64 := fun u h => gsizes_64 hu u (List.mem_of_mem_tail h)
    have hcode : gnum us ≤ 31 := by
      unfold gnum
      split
      · omega
      · exact (gwide_int h64t).2.2.2.2.2.2.1
    subst hb
    refine ⟨?_, by unfold glay; simp only [List.length_append, dheadN_len]; omega⟩
    have h2 := gtake_back (fun x hx => ⟨hl x hx, hok x hx⟩) h2' h5 hu r
    unfold glay at h2 ⊢
    simp only [List.append_assoc] at h2 ⊢
    rw [uone_delta hcode h1 h5]
    exact h2
  · obtain ⟨W, hW⟩ := wof_nat c
    rw [hW] at h
    obtain ⟨us, hu, _, h5, hc0, h64, hne, h31, hgp, hb⟩ := pputE_ok h
    rw [Int.toNat_natCast] at h31 hgp hb
    have hul := pups_len hu
    subst hb
    refine ⟨?_, by unfold play; simp only [List.length_append, dheadN_len]; omega⟩
    have h2 := ptake_back (fun x hx => ⟨hl x hx, hok x hx⟩) h1 h5 hc0 (by omega) hu hne h31 hgp r
    unfold play at h2 ⊢
    simp only [List.append_assoc] at h2 ⊢
    rw [uone_patched (pcode_back hc0).2.1 (by omega) (by omega)]
    exact h2
theorem bsize_eight {n W : Nat} (hW : W ≤ 64) : bsize n W ≤ 8 * n := by
  have : n * W ≤ n * 64 := Nat.mul_le_mul_left _ hW
  unfold bsize
  omega
/-- Run: what it answers. -/
theorem urunE_no {l : List Int} {s : Bool} (h : dplain l s = none ∨ l.length < 1 ∨ 512 < l.length) : urunE l s = ([], 1) := by unfold urunE; rw [if_pos h]
theorem urunE_in {l : List Int} {s : Bool} (h : dplain l s ≠ none) (h1 : 1 ≤ l.length) (h5 : l.length ≤ 512) : urunE l s = ((ucands l s).foldl ushorter [], 0) := by
  unfold urunE
  rw [if_neg]
  rintro (h2 | h2 | h2)
  · exact h h2
  · omega
  · omega
theorem urunE_le {l : List Int} {s : Bool} (hl : ∀ x ∈ l, inInt x) (h : dplain l s ≠ none) (h1 : 1 ≤ l.length) (h5 : l.length ≤ 512) {p : List UInt8 × Int} (hp : p ∈ ucands l s) (h0 : p.2 = 0) : (urunE l s).1.length ≤ p.1.length := by
  rw [urunE_in h h1 h5]
  refine ((ushort_le (cs := ucands l s) (a := []) fun q hq h2 => ?_).2 p hp h0).2
  have h3 := ucand_back (b := q.1) hl h h1 (by rw [← h2]; exact hq) []
  omega
theorem dput_mem (l : List Int) (s : Bool) : dputE l s ∈ ucands l s := by unfold ucands ucands0; simp
theorem dputE_in {l : List Int} {s : Bool} (h : dplain l s ≠ none) (h1 : 1 ≤ l.length) (h5 : l.length ≤ 512) : ∃ u, dplain l s = some u ∧ dputE l s = (dlay u, 0) := by
  cases hu : dplain l s with
  | none => exact absurd hu h
  | some u => exact ⟨u, rfl, dputE_ok hu h1 h5⟩
theorem urun_back {l : List Int} {s : Bool} (hl : ∀ x ∈ l, inInt x) (h : dplain l s ≠ none) (h1 : 1 ≤ l.length) (h5 : l.length ≤ 512) (r : List UInt8) :
    (urunE l s).2 = 0 ∧ uone ((urunE l s).1 ++ r) s = (l, r, 0) ∧ 2 ≤ (urunE l s).1.length ∧ (urunE l s).1.length ≤ 2 + 8 * l.length := by
  obtain ⟨u, hu, hd⟩ := dputE_in h h1 h5
  have hle := urunE_le hl h h1 h5 (dput_mem l s) (by rw [hd])
  have hu64 := dplain_lt hl hu
  rw [hd] at hle
  have hbd : (dlay u).length ≤ 2 + 8 * l.length := by
    have := bsize_eight (n := u.length) (dwide_room hu64).2.1
    have := dplain_len hu
    unfold dlay
    rw [List.length_append, dheadN_len, bpack_len]
    omega
  dsimp only at hle
  have hin := urunE_in h h1 h5
  have hmem : ((urunE l s).1, (0 : Int)) ∈ ucands l s := by
    rw [hin]
    rcases ushort_mem (cs := ucands l s) (a := []) with h2 | h2
    · exfalso
      have h3 := (ushort_le (cs := ucands l s) (a := []) fun q hq h2 => by
        have h3 := ucand_back (b := q.1) hl h h1 (by rw [← h2]; exact hq) []
        omega).2 _ (dput_mem l s) (by rw [hd])
      rw [h2] at h3
      simp at h3
    · exact h2
  obtain ⟨h2, h3⟩ := ucand_back hl h h1 hmem r
  exact ⟨by rw [hin], h2, h3, by omega⟩
/-- Put of numbers that may be laid down, and what Take makes of it. -/
theorem uputN_back {s : Bool} {r : List UInt8} : ∀ (k : Nat) (l out : List Int) (fuel : Nat), l.length ≤ k → l.length + 1 ≤ fuel → (∀ x ∈ l, inInt x) → dplain l s ≠ none →
    (uputN s k l).2 = 0 ∧ (uputN s k l).1.length ≤ 10 * l.length ∧ utakeN s (out.length + l.length) fuel out ((uputN s k l).1 ++ r) = (out ++ l, r, 0)
  | 0, l, out, fuel, hk, hf, _, _ => by
    obtain rfl : l = [] := List.eq_nil_of_length_eq_zero (by omega)
    obtain ⟨f, rfl⟩ : ∃ f, fuel = f + 1 := ⟨fuel - 1, by omega⟩
    refine ⟨rfl, by simp [uputN], ?_⟩
    rw [uputN, utakeN]
    simp
  | k + 1, l, out, fuel, hk, hf, hl, hp => by
    obtain ⟨f, rfl⟩ : ∃ f, fuel = f + 1 := ⟨fuel - 1, by omega⟩
    by_cases h0 : l.length = 0
    · obtain rfl : l = [] := List.eq_nil_of_length_eq_zero h0
      refine ⟨by simp [uputN], by simp [uputN], ?_⟩
      have e : (uputN s (k + 1) []) = ([], 0) := by simp [uputN]
      rw [e, utakeN]
      simp
    · obtain ⟨c1, c2, c3⟩ := ucut_bd (l := l) (by omega)
      obtain ⟨n, hn⟩ : ∃ n, n = ucut l := ⟨_, rfl⟩
      rw [← hn] at c1 c2 c3
      have htl : (l.take n).length = n := by rw [List.length_take]; omega
      have hdl : (l.drop n).length = l.length - n := List.length_drop
      obtain ⟨r0, _, _, r3⟩ := urun_back (l := l.take n) (s := s) (fun x hx => hl x (List.mem_of_mem_take hx)) (dplain_sub hp fun x hx => List.mem_of_mem_take hx) (by omega) (by omega) []
      obtain ⟨i0, i1, i2⟩ := uputN_back (s := s) (r := r) k (l.drop n) (out ++ l.take n) f (by omega) (by omega) (fun x hx => hl x (List.mem_of_mem_drop hx)) (dplain_sub hp fun x hx => List.mem_of_mem_drop hx)
      obtain ⟨_, r1, _, _⟩ := urun_back (l := l.take n) (s := s) (fun x hx => hl x (List.mem_of_mem_take hx)) (dplain_sub hp fun x hx => List.mem_of_mem_take hx) (by omega) (by omega) ((uputN s k (l.drop n)).1 ++ r)
      rw [uputN, ← hn, if_neg h0, if_neg (by rw [r0]; simp), if_neg (by rw [i0]; simp)]
      refine ⟨rfl, by rw [List.length_append]; omega, ?_⟩
      dsimp only
      rw [List.append_assoc, utakeN, if_neg (by omega), r1]
      dsimp only
      rw [if_neg (by simp)]
      rw [List.length_append, htl, hdl, show out.length + n + (l.length - n) = out.length + l.length by omega] at i2
      rw [i2, List.append_assoc, List.take_append_drop]
end Go.Proofs.YtnbiopihcbnkpaaGreatDoor

/- Runs (layer 11): how much a run gives. -/





namespace Go.Proofs.YtnbiopihcbnkpaaGreatDoor

theorem nat_of {m : Int} (h : 0 ≤ m) : ∃ n : Nat, m = (n : Int) := ⟨m.toNat, by omega⟩
theorem dtake_bd {b : List UInt8} {s : Bool} (h : (dtakeE b s).2.2 = 0) : 1 ≤ (dtakeE b s).1.length ∧ (dtakeE b s).1.length ≤ 512 ∧ (dtakeE b s).2.1.length ≤ b.length := by
  obtain ⟨K, C, M, r, x, hd⟩ : ∃ K C M r x, dlook b = (K, C, M, r, x) := ⟨_, _, _, _, _, rfl⟩
  have hbd := dlook_bd b
  unfold dtakeE at h ⊢
  rw [hd] at h hbd ⊢
  dsimp only at h hbd ⊢
  split at h
  · cases h
  · rename_i hn
    rw [if_neg hn]
    have hx : x = 0 := Decidable.not_not.1 fun h2 => hn (.inl h2)
    subst hx
    have hM := dlook_many hd
    obtain ⟨m, rfl⟩ := nat_of (show 0 ≤ M by omega)
    obtain ⟨u, q, e, hu⟩ : ∃ u q e, unpacksAny r (m : Int) (wof C) = (u, q, e) := ⟨_, _, _, rfl⟩
    rw [hu] at h ⊢
    dsimp only at h ⊢
    split at h
    · cases h
    · rename_i he
      rw [if_neg he]
      have he0 : e = 0 := Decidable.not_not.1 he
      subst he0
      obtain ⟨h1, h2⟩ := unpacksAny_len hu
      cases hm : dmade u s with
      | none => rw [hm] at h; cases h
      | some o =>
        have h3 := dmade_len hm
        dsimp only
        omega
theorem upstep_len {w g p m v : Nat} {st st' : Nat × List Nat} (h : pstep w g p m st v = some st') : st'.2.length = st.2.length := by
  unfold pstep at h
  split at h
  · injection h with h; subst h; simp
  · cases h
theorem upall_len {w g p m : Nat} : ∀ {vs : List Nat} {st st' : Nat × List Nat}, pall w g p m st vs = some st' → st'.2.length = st.2.length
  | [], st, st', h => by rw [pall] at h; injection h with h; rw [h]
  | v :: vs, st, st', h => by
    rw [pall] at h
    cases hs : pstep w g p m st v with
    | none => rw [hs] at h; cases h
    | some s2 =>
      rw [hs] at h
      rw [upall_len h, upstep_len hs]
theorem ptake_bd {b : List UInt8} {s : Bool} (h : (ptakeE b s).2.2 = 0) : 1 ≤ (ptakeE b s).1.length ∧ (ptakeE b s).1.length ≤ 512 ∧ (ptakeE b s).2.1.length ≤ b.length := by
  obtain ⟨K, C, M, r, x, hd⟩ : ∃ K C M r x, dlook b = (K, C, M, r, x) := ⟨_, _, _, _, _, rfl⟩
  have hbd := dlook_bd b
  rw [hd] at hbd
  dsimp only at hbd
  by_cases hk : x ≠ 0 ∨ K ≠ 2
  · rw [ptakeE_head (by rw [hd]; exact hk)] at h; cases h
  · obtain rfl : x = 0 := Decidable.not_not.1 fun h2 => hk (.inl h2)
    obtain rfl : K = 2 := Decidable.not_not.1 fun h2 => hk (.inr h2)
    have hM := dlook_many hd
    rw [ptakeE_in hd] at h ⊢
    obtain ⟨m, rfl⟩ := nat_of (show 0 ≤ M by omega)
    by_cases h2 : r.length < 2
    · rw [pbody_short h2] at h; cases h
    · obtain ⟨p, hp⟩ := wof_nat ((r[0]'(by omega)).toNat % 32)
      have he := pbody_eq (s := s) (c := C) (m := (m : Int)) (p := p) (r := r) (by omega) rfl rfl rfl rfl rfl hp rfl
      rw [he] at h ⊢
      split at h
      · cases h
      · rename_i hg
        rw [if_neg hg]
        generalize hdn : (r.drop 2).drop _ = q at h ⊢
        have hq : q.length ≤ r.length := by rw [← hdn]; simp only [List.length_drop]; omega
        generalize pmade _ = base at h ⊢
        generalize (r[1]'(by omega)).toNat / 32 + 1 = g at h ⊢
        generalize (r[1]'(by omega)).toNat % 32 = t at h ⊢
        obtain ⟨us, q1, e1, hu⟩ : ∃ u r e, unpacksAny q (m : Int) (wof C) = (u, r, e) := ⟨_, _, _, rfl⟩
        by_cases he1 : e1 = 0
        · subst he1
          obtain ⟨u1, u2⟩ := unpacksAny_len hu
          obtain ⟨vs, q2, e2, hv⟩ : ∃ u r e, unpacksAny q1 (t : Int) (wclosest ((g + p : Nat) : Int)) = (u, r, e) := ⟨_, _, _, rfl⟩
          by_cases he2 : e2 = 0
          · subst he2
            obtain ⟨_, v2⟩ := unpacksAny_len hv
            rw [pbits_in hu hv] at h ⊢
            cases hpa : pall (wof C).toNat g p (m : Int).toNat (0, us) vs with
            | none => rw [pend_none hpa] at h; cases h
            | some st =>
              obtain ⟨a, lf⟩ := st
              have h3 := upall_len hpa
              dsimp only at h3
              rw [pend_some hpa] at h ⊢
              cases ho : omap (gnext s false base) lf with
              | none => rw [ho] at h; cases h
              | some xs =>
                have h4 := omap_len ho
                dsimp only
                omega
          · rw [pbits_cut2 hu hv he2] at h; cases h
        · rw [pbits_cut hu he1] at h; cases h
theorem gend_bd {s f : Bool} {x : Int} {us : List Nat} {q : List UInt8} (h : (gend s f x us q).2.2 = 0) : (gend s f x us q).1.length = us.length + 1 ∧ (gend s f x us q).2.1 = q := by
  unfold gend at h ⊢
  cases hw : gwalk s f x us with
  | none => rw [hw] at h; cases h
  | some ys => exact ⟨by dsimp only; rw [List.length_cons, gwalk_len hw], rfl⟩
theorem gtake_bd {b : List UInt8} {s : Bool} (h : (gtakeE b s).2.2 = 0) : 1 ≤ (gtakeE b s).1.length ∧ (gtakeE b s).1.length ≤ 512 ∧ (gtakeE b s).2.1.length ≤ b.length := by
  obtain ⟨K, C, M, r, x, hd⟩ : ∃ K C M r x, dlook b = (K, C, M, r, x) := ⟨_, _, _, _, _, rfl⟩
  have hbd := dlook_bd b
  rw [hd] at hbd
  dsimp only at hbd
  by_cases hk : x ≠ 0 ∨ K ≠ 3 ∨ M < 2
  · rw [gtakeE_head (by rw [hd]; exact hk)] at h; cases h
  · obtain rfl : x = 0 := Decidable.not_not.1 fun h2 => hk (.inl h2)
    obtain rfl : K = 3 := Decidable.not_not.1 fun h2 => hk (.inr (.inl h2))
    have hM2 : 2 ≤ M := Int.not_lt.1 fun h2 => hk (.inr (.inr h2))
    rw [gtakeE_in hd hM2] at h ⊢
    cases h1 : vtint r s with
    | none => rw [gbody_none h1] at h; cases h
    | some p =>
      obtain ⟨x0, r1⟩ := p
      cases h2 : vtint r1 true with
      | none => rw [gbody_none2 h1 h2] at h; cases h
      | some p2 =>
        obtain ⟨dd, r2⟩ := p2
        obtain ⟨u, f, o, hg⟩ : ∃ u f o, gdiff 0 dd = (u, f, o) := ⟨_, _, _, rfl⟩
        have b1 := (vtint_bd h1).2
        have b2 := (vtint_bd h2).2
        rw [gbody_some h1 h2 hg] at h ⊢
        cases o with
        | false => cases h
        | true =>
          have key : (if true = true then gmore s f x0 u C M r2 else ([], [], 2)) = gmore s f x0 u C M r2 := if_pos rfl
          try rw [key] at h
          try rw [key]
          by_cases hC : 0 < C
          · obtain ⟨m, hm⟩ := nat_of (show 0 ≤ M - 2 by omega)
            obtain ⟨us, q, e, hu⟩ : ∃ u q e, unpacksAny r2 (M - 2) (wof C) = (u, q, e) := ⟨_, _, _, rfl⟩
            by_cases he : e = 0
            · subst he
              rw [gmore_good hC hu] at h ⊢
              rw [hm] at hu
              obtain ⟨u1, u2⟩ := unpacksAny_len hu
              obtain ⟨e1, e2⟩ := gend_bd h
              rw [e1, e2, List.length_cons]
              omega
            · rw [gmore_bad hC hu he] at h; cases h
          · rw [gmore_zero hC] at h ⊢
            obtain ⟨e1, e2⟩ := gend_bd h
            rw [e1, e2, List.length_replicate]
            omega
theorem etake_bd {b : List UInt8} {s : Bool} (h : (etake b s).2.2.2 = 0) : 3 ≤ (etake b s).2.1 ∧ (etake b s).2.1 ≤ 10 ∧ (etake b s).2.2.1.length ≤ b.length := by
  unfold etake at h ⊢
  cases b with
  | nil => cases h
  | cons c r =>
    dsimp only at h ⊢
    split at h
    · cases h
    · rename_i h1
      rw [if_neg h1]
      split at h
      · cases h
      · rename_i h2
        rw [if_neg h2]
        split at h
        · cases h
        · rename_i h3
          rw [if_neg h3]
          cases hm : emade (bval (r.take (c.toNat / 8 + 1))) s with
          | none => rw [hm] at h; cases h
          | some x =>
            dsimp only
            rw [List.length_drop, List.length_cons]
            omega
theorem etake_no {b : List UInt8} {s : Bool} (h : (etake b s).2.2.2 ≠ 0) : etake b s = (0, 0, [], 2) := by
  unfold etake at h ⊢
  cases b with
  | nil => rfl
  | cons c r =>
    dsimp only at h ⊢
    split
    · rfl
    · rename_i h1
      rw [if_neg h1] at h
      split
      · rfl
      · rename_i h2
        rw [if_neg h2] at h
        split
        · rfl
        · rename_i h3
          rw [if_neg h3] at h
          cases hm : emade (bval (r.take (c.toNat / 8 + 1))) s with
          | none => rfl
          | some x => rw [hm] at h; exact absurd rfl h
/-- A run gives at least one number, and no more bytes than there were. -/
theorem uone_bd {b : List UInt8} {s : Bool} (h : (uone b s).2.2 = 0) : 1 ≤ (uone b s).1.length ∧ (uone b s).1.length ≤ 512 ∧ (uone b s).2.1.length ≤ b.length := by
  cases b with
  | nil => cases h
  | cons c r =>
    unfold uone at h ⊢
    dsimp only at h ⊢
    split at h
    · rename_i h1; rw [if_pos h1]; exact dtake_bd h
    · rename_i h1
      rw [if_neg h1]
      split at h
      · rename_i h2; rw [if_pos h2]; exact ptake_bd h
      · rename_i h2
        rw [if_neg h2]
        split at h
        · rename_i h3; rw [if_pos h3]; exact gtake_bd h
        · rename_i h3
          rw [if_neg h3]
          dsimp only at h ⊢
          have := etake_bd h
          rw [List.length_replicate]
          omega
theorem utakeN_bd {s : Bool} {many : Nat} : ∀ (k : Nat) (out : List Int) (rest : List UInt8), (utakeN s many k out rest).1.length ≤ many
  | 0, _, _ => by simp [utakeN, gbad]
  | k + 1, out, rest => by
    rw [utakeN]
    split
    · split
      · simp [gbad]
      · dsimp only; omega
    · split
      · simp [gbad]
      · exact utakeN_bd k _ _
theorem utakeE_len (b : List UInt8) (many : Int) (s : Bool) : (utakeE b many s).1.length ≤ 4096 := by
  unfold utakeE
  split
  · simp
  · exact Nat.le_trans (utakeN_bd _ _ _) (by omega)
end Go.Proofs.YtnbiopihcbnkpaaGreatDoor

/- Contracts of layer 11's reference: same, shorter, Cut. -/







namespace Go.Proofs.YtnbiopihcbnkpaaGreatDoor

open Go.RowKit

def USameRel (l : List Int) (w : World) (i : Value) (wr : World) : Prop := ∃ k : Nat, k ≤ usame l ∧ i = .int .i64 (k : Int) ∧ Below w.heap.size w wr
set_option maxHeartbeats 1000000 in
set_option maxRecDepth 100000 in
theorem rsame11_any (l : List Int) (v : Value) (w : World) (hv : IsV iv l v w) (hb : l.length ≤ 1000000) :
    Calls Tryz.prog 22 #[v] w fun e w' => e = .returned (.int .i64 (usame l : Int)) ∧ Below w.heap.size w w' := by
  obtain ⟨A, n, c, rfl⟩ := hv.shape
  have HN := Lib.hid hv.parts.1
  have HV := Lib.hid hv
  have hn6 : n ≤ 1000000 := by have := HN.out; omega
  clear hv hb
  go_enter Tryz.func22, Tryz.ntmps22
  go_wp2
  go_loopw [3] (USameRel l w) (fun i _ => n - (intOf i).toNat)
  case atStart => exact ⟨0, Nat.zero_le _, rfl, Below.refl _ _⟩
  case round =>
    obtain ⟨k, hk, rfl, hbw⟩ := hrel
    have hle := usame_le l
    have hkn : k ≤ n := by have := HN.out; omega
    have HK := Lib.hid hk
    have HB := Lib.hid hbw
    by_cases hlt : k < n
    · have hkl : k < l.length := by have := HN.out; omega
      have hn0 : 0 < n := by omega
      have hn0i : (0 : Int) < (n : Int) := by omega
      have hlti : (k : Int) < (n : Int) := by omega
      have hiff := usame_iff hkl hk
      obtain ⟨ad, rfl, had, hcell⟩ := (HV.out.below hbw).at hkl
      obtain ⟨_, hAd, _, hcell0⟩ := (HV.out.below hbw).at (k := 0) (by omega)
      injection hAd with hAd
      subst hAd
      obtain ⟨x, hx⟩ : ∃ x, x = l[k] := ⟨_, rfl⟩
      obtain ⟨x0, hx0⟩ : ∃ x, x = l[0] := ⟨_, rfl⟩
      rw [← hx, ← hx0] at hiff
      have hcx : wr.cell? (ad.add k) = some (.int .i64 x) := by rw [hcell, hx]; rfl
      have hc0 : wr.cell? ad = some (.int .i64 x0) := by
        have h1 : ad.add 0 = ad := by unfold Addr.add; split <;> simp_all
        rw [← h1, hcell0, hx0]; rfl
      have HI := Lib.hid hiff
      clear hcell hcell0 hx hx0 hiff hk hbw hle
      by_cases he : x = x0
      · have d2 : (x == x0) = true := by simpa using he
        have HE := Lib.hid he
        clear he
        go_wp2
        go_quiet (fail)
        go_wp2
        go_roundw
        case rel => exact ⟨k + 1, HI.out.2 HE.out, by go_num, below_drewN HB.out nq⟩
        case measure => simp [intOf]; omega
      · have d2 : (x == x0) = false := by simpa using he
        have HE := Lib.hid he
        clear he
        go_wp2
        go_quiet (fail)
        go_wp2
        go_ret
        refine ⟨?_, below_drewN HB.out nq⟩
        have h1 : k = usame l := Nat.le_antisymm HK.out (Nat.not_lt.1 fun h => HE.out (HI.out.1 h))
        rw [← h1]
        rfl
    · obtain rfl : k = n := by omega
      have hlti : ¬ (k : Int) < (k : Int) := by omega
      have h1 : k = usame l := by have := HN.out; omega
      have HE := Lib.hid h1
      clear h1 hk hbw hle
      go_wp2
      go_quiet (fail)
      go_wp2
      go_ret
      refine ⟨?_, below_drewN HB.out nq⟩
      rw [← HE.out]
      rfl
theorem rshorter_any (la lb : List UInt8) (va vb : Value) (x : Int) (w : World) (ha : IsB la va w) (hb : IsB lb vb w) :
    Calls Tryz.prog 24 #[va, vb, .int .i64 x] w fun e w' => (∃ v, e = .returned v ∧ IsB (ushorter la (lb, x)) v w') ∧ w = w' := by
  have HA := Lib.hid ha
  have HB := Lib.hid hb
  obtain ⟨A, n, c, rfl⟩ := IsV.shape (f := bv) ha
  obtain ⟨B, m, d, rfl⟩ := IsV.shape (f := bv) hb
  have hn := (IsV.parts (f := bv) (show IsV bv la _ _ from ha)).1
  have hm := (IsV.parts (f := bv) (show IsV bv lb _ _ from hb)).1
  by_cases h : x = 0 ∧ (n = 0 ∨ m < n)
  · have HE : Hid (ushorter la (lb, x) = lb) := Lib.hid (by unfold ushorter; rw [if_pos (by rw [hn, hm]; exact h)])
    obtain ⟨rfl, h2⟩ := h
    have hd : ((n : Int) == 0) = true ∨ (((n : Int) == 0) = false ∧ decide (m < n) = true) := by
      by_cases h3 : n = 0
      · exact .inl (by simpa using h3)
      · exact .inr ⟨by simpa using h3, decide_eq_true (by omega)⟩
    clear ha hb hn hm h2
    rcases hd with d1 | ⟨d1, d2⟩
    all_goals
      go_enter Tryz.func24, Tryz.ntmps24
      go_wp2
      go_ret
      refine ⟨⟨_, rfl, ?_⟩, rfl⟩
      rw [HE.out]
      exact HB.out
  · have HE : Hid (ushorter la (lb, x) = la) := Lib.hid (by unfold ushorter; rw [if_neg (by rw [hn, hm]; exact h)])
    have hd : (x == 0) = false ∨ (x = 0 ∧ ((n : Int) == 0) = false ∧ decide (m < n) = false) := by
      by_cases h3 : x = 0
      · exact .inr ⟨h3, by simp; omega, decide_eq_false (by omega)⟩
      · exact .inl (by simpa using h3)
    clear ha hb hn hm h
    rcases hd with d1 | ⟨rfl, d1, d2⟩
    all_goals
      go_enter Tryz.func24, Tryz.ntmps24
      go_wp2
      go_ret
      refine ⟨⟨_, rfl, ?_⟩, rfl⟩
      rw [HE.out]
      exact HA.out
theorem ucut_same {l : List Int} (h : 3 ≤ usame l) : ucut l = min (usame l) 512 := by unfold ucut; rw [if_pos h]
theorem ucut_at {l : List Int} {n : Nat} (h : ¬ 3 ≤ usame l) (h1 : 1 ≤ n) (h2 : n < l.length) (h5 : n < 512) (hb : ∀ j, 1 ≤ j → j < n → ufind l j = false) (hn : ufind l n = true) : ucut l = n := by
  unfold ucut
  rw [if_neg h, List.find?_range'_eq_some.2 ⟨hn, List.mem_range'_1.2 (by omega), fun j hj hjn => by rw [hb j hj hjn]; rfl⟩]
  rfl
theorem ucut_all {l : List Int} (h : ¬ 3 ≤ usame l) (hb : ∀ j, 1 ≤ j → j < min l.length 512 → ufind l j = false) : ucut l = min l.length 512 := by
  unfold ucut
  rw [if_neg h, List.find?_range'_eq_none.2 fun j hj hjn => by rw [hb j hj (by omega)]; rfl]
  rfl
def UCutRel (l : List Int) (w : World) (i : Value) (wr : World) : Prop := ∃ k : Nat, 1 ≤ k ∧ k ≤ 512 ∧ k ≤ max 1 l.length ∧ i = .int .i64 (k : Int) ∧ (∀ j, 1 ≤ j → j < k → ufind l j = false) ∧ Below w.heap.size w wr
set_option maxHeartbeats 1000000 in
set_option maxRecDepth 100000 in
theorem rcut11_any (l : List Int) (v : Value) (w : World) (hv : IsV iv l v w) (hb : l.length ≤ 1000000) :
    Calls Tryz.prog 12 #[v] w fun e w' => e = .returned (.int .i64 (ucut l : Int)) ∧ Below w.heap.size w w' := by
  have HV := Lib.hid hv
  obtain ⟨A, n, c, rfl⟩ := hv.shape
  have HN := Lib.hid hv.parts.1
  have hnc : n ≤ c := hv.parts.2.2.1
  have hci : (c : Int) ≤ 9223372036854775807 := by have := hv.parts.2.2.2.1; unfold maxLen at this; omega
  have hn6 : n ≤ 1000000 := by have := HN.out; omega
  have HL := Lib.hid hb
  have HS := Lib.hid (fun W (h : Below w.heap.size w W) => rsame11_any l _ W (HV.out.below h) HL.out)
  obtain ⟨u, hu⟩ : ∃ u, u = usame l := ⟨_, rfl⟩
  rw [← hu] at HS
  have hun : u ≤ n := by have := usame_le l; have := HN.out; omega
  have HU := Lib.hid hu
  have hmu : ∀ (ts : Array TypeId) (t : TypeId) (W : World), (Builtin.min_ ts t #[.int .i64 (u : Int), .int .i64 512]).run Tryz.prog W = .ok (.int .i64 ((min u 512 : Nat) : Int)) W := fun ts t W => by
    rw [run_min_int2]
    congr 2
    split <;> omega
  have hmn : ∀ (ts : Array TypeId) (t : TypeId) (W : World), (Builtin.min_ ts t #[.int .i64 (n : Int), .int .i64 512]).run Tryz.prog W = .ok (.int .i64 ((min n 512 : Nat) : Int)) W := fun ts t W => by
    rw [run_min_int2]
    congr 2
    split <;> omega
  clear hv hb hu
  by_cases hu3 : 3 ≤ u
  · have d0 : decide (0 < n) = true := decide_eq_true (by omega)
    have hu3i : (3 : Int) ≤ (u : Int) := by omega
    have hE : Hid (ucut l = min u 512) := Lib.hid (by rw [HU.out]; exact ucut_same (by rw [← HU.out]; exact hu3))
    go_enter Tryz.func12, Tryz.ntmps12
    go_wp2_with fail
    refine (HS.out _ (Below.refl _ _)).mono ?_
    rintro e w1 ⟨rfl, hb1⟩
    have HB1 := Lib.hid hb1
    clear hb1
    go_wp2_with fail
    refine (HS.out _ HB1.out).mono ?_
    rintro e w2 ⟨rfl, hb2⟩
    have HB2 := Lib.hid (below_then HB1.out hb2)
    clear hb2
    go_wp2
    go_ret
    exact ⟨by rw [hE.out]; rfl, HB2.out⟩
  · have hu3i : ¬ (3 : Int) ≤ (u : Int) := by omega
    have HU3 : Hid (¬ 3 ≤ usame l) := Lib.hid (by rw [← HU.out]; exact hu3)
    by_cases h0 : n = 0
    · subst h0
      have hE : Hid (ucut l = min 0 512) := Lib.hid (by
        rw [ucut_all HU3.out (fun j h1 h2 => by have := HN.out; omega), HN.out])
      go_enter Tryz.func12, Tryz.ntmps12
      go_wp2
      go_loopw [3] (UCutRel l w) (fun i _ => 513 - (intOf i).toNat)
      case atStart => exact ⟨1, by omega, by omega, by omega, rfl, fun j h1 h2 => by omega, Below.refl _ _⟩
      case round =>
        obtain ⟨k, hk1, hk5, hkn, rfl, hno, hbw⟩ := hrel
        have d1 : decide ((k : Int) < 0) = false := decide_eq_false (by omega)
        clear hno
        go_wp2
        go_ret
        exact ⟨by rw [hE.out]; rfl, hbw⟩
    · have d0 : decide (0 < n) = true := decide_eq_true (by omega)
      go_enter Tryz.func12, Tryz.ntmps12
      go_wp2_with fail
      refine (HS.out _ (Below.refl _ _)).mono ?_
      rintro e w1 ⟨rfl, hb1⟩
      have HB1 := Lib.hid hb1
      clear hb1
      go_wp2
      go_loopw [3] (UCutRel l w) (fun i _ => 513 - (intOf i).toNat)
      case atStart => exact ⟨1, by omega, by omega, by omega, rfl, fun j h1 h2 => by omega, HB1.out⟩
      case round =>
        obtain ⟨k, hk1, hk5, hkn, rfl, hno, hbw⟩ := hrel
        have HNO := Lib.hid hno
        have HBW := Lib.hid hbw
        have hkn' : k ≤ n := by have := HN.out; omega
        clear hno hbw
        by_cases hgo : k < n ∧ k < 512
        · obtain ⟨hlt, hlt5⟩ := hgo
          have d1 : decide (k < n) = true := decide_eq_true hlt
          have d2 : decide ((k : Int) < 512) = true := decide_eq_true (by omega)
          obtain ⟨v4, hv4, hI4⟩ := fromV_named (P := Tryz.prog) elemI (k := k) hkn' (HV.out.below HBW.out)
          obtain ⟨g, hg⟩ : ∃ g, g = usame (l.drop k) := ⟨_, rfl⟩
          have HS4 := Lib.hid (rsame11_any (l.drop k) v4 wr hI4 (by rw [List.length_drop]; have := HL.out; omega))
          rw [← hg] at HS4
          have hgb : g ≤ 1000000 := by have := usame_le (l.drop k); rw [List.length_drop] at this; have := HL.out; omega
          have HG := Lib.hid hg
          clear hg hI4
          by_cases h5 : 5 ≤ g
          · have hE : Hid (ucut l = k) := Lib.hid (ucut_at HU3.out hk1 (by have := HN.out; omega) hlt5 HNO.out (by unfold ufind; rw [← HG.out]; exact decide_eq_true h5))
            have h5i : (5 : Int) ≤ (g : Int) := by omega
            go_wp2_with (refine wpList_slicedL rfl _ _ _ rfl _ (hv4 _) ?_)
            refine HS4.out.mono ?_
            rintro e w2 ⟨rfl, hb2⟩
            have HB2 := Lib.hid (below_then HBW.out hb2)
            clear hb2
            go_wp2
            go_ret
            exact ⟨by rw [hE.out]; rfl, HB2.out⟩
          · have h5i : ¬ (5 : Int) ≤ (g : Int) := by omega
            go_wp2_with (refine wpList_slicedL rfl _ _ _ rfl _ (hv4 _) ?_)
            refine HS4.out.mono ?_
            rintro e w2 ⟨rfl, hb2⟩
            have HB2 := Lib.hid (below_then HBW.out hb2)
            clear hb2
            go_wp2
            go_roundw
            case rel =>
              refine ⟨k + 1, by omega, by omega, by have := HN.out; omega, by go_num, fun j h1 h2 => ?_, HB2.out⟩
              by_cases hj : j < k
              · exact HNO.out j h1 hj
              · obtain rfl : j = k := by omega
                unfold ufind
                rw [← HG.out]
                exact decide_eq_false h5
            case measure => simp [intOf]; omega
        · have hE : Hid (ucut l = min n 512) := Lib.hid (by
            rw [ucut_all HU3.out (fun j h1 h2 => HNO.out j h1 (by have := HN.out; omega)), HN.out])
          have hd : decide (k < n) = false ∨ (decide (k < n) = true ∧ decide ((k : Int) < 512) = false) := by
            by_cases h : k < n
            · exact .inr ⟨decide_eq_true h, decide_eq_false (by omega)⟩
            · exact .inl (decide_eq_false h)
          clear hgo
          rcases hd with d1 | ⟨d1, d2⟩
          all_goals
            go_wp2
            go_ret
            exact ⟨by rw [hE.out]; rfl, HBW.out⟩
end Go.Proofs.YtnbiopihcbnkpaaGreatDoor
