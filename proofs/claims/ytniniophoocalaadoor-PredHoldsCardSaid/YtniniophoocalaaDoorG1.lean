/- Texts that the claims of this seat share, part 1: Bits Mem Region Ops Row Law Com Str Tab BPlain BGen Sl OwnV Mask Num Wide WRow Arr RegR WMake YPlain YRef YRTake QPlain QRef QRTake KPlain KRef KLib. -/
import Derived.Laws.BitsAllLaws
import Derived.Laws.BitsLemmas
import Derived.WalkKit
import Derived.Below
import Derived.Laws.OwnMore
import Derived.Laws.BytesArg
import Derived.Laws.CopyOwn
import Derived.Maps.AppendAt
import Derived.Deep.Draws
import Derived.Deep.RegionLaw
import Derived.Orders
import Derived.StillTail
import Derived.Test.YtniniophoocalaaDoorRows
import Derived.WalkLawsBesides
import Derived.ProofKit
import Derived.OpenShut
import Derived.SizedLaws
import Derived.Carry
import Derived.ChangeSlices
import Derived.SevenTiedAt
import Derived.Outline
import Derived.Lib.Hide
import Derived.Handy
import Derived.Deep.QuietTactic
import Derived.BigQuiet
import Derived.StillTailTactics
import Derived.Deep.DeepMust
import Derived.Lib.SlBytesConst
import Derived.Laws.ResultCell
import Derived.Great.BuildSlice
import Derived.LaidMore
import Derived.Laws.Rows
import Derived.MakeChecks
import Derived.LaidSub
import Derived.Deep.Grids
import Derived.Deep.WholeRow
import Derived.Sort.Walk0
import Derived.Laws.Strings
import Derived.Lib.Strings
import Derived.Lib.Slices
import Derived.Lib.Small
import Derived.Lib.Bytealg
/- Bit operations of the model on numbers in their range, as plain arithmetic. -/







namespace Go.Proofs.YtniniophoocalaaDoor

end Go.Proofs.YtniniophoocalaaDoor

/- Slices in memory: what lies at an address, and what becomes of it. Over any program. -/

















namespace Go.Proofs.YtniniophoocalaaDoor

open Go.RowKit

theorem add_block (a : Addr) (n : Nat) : (a.add n).block = a.block := by unfold Addr.add; split <;> rfl
theorem add_add (a : Addr) (i j : Nat) : (a.add i).add j = a.add (i + j) := by
  unfold Addr.add
  rcases Nat.eq_zero_or_pos i with rfl | hi
  · simp
  · rcases Nat.eq_zero_or_pos j with rfl | hj
    · simp
    · rw [if_neg (by omega), if_neg (by omega), if_neg (by omega)]; simp [Nat.add_assoc]

/-- The cells xs lie at A, in a block that is there. (Where there are none, A is whatever.) -/
def Lies (w : World) (A : Option Addr) (xs : List Value) : Prop :=
  xs = [] ∨ ∃ ad, A = some ad ∧ ad.block < w.heap.size ∧ ∀ j u, xs[j]? = some u → w.cell? (ad.add j) = some u

section

variable {w w' : World} {A : Option Addr} {xs : List Value}
theorem Lies.nil : Lies w A [] := .inl rfl
theorem Lies.below (h : Lies w A xs) (hb : Below w.heap.size w w') : Lies w' A xs := by
  rcases h with h | ⟨ad, hA, hlt, hc⟩
  · exact .inl h
  · exact .inr ⟨ad, hA, Nat.lt_of_lt_of_le hlt hb.size, fun j u hu => (hb.cell (by rw [add_block]; exact hlt)).trans (hc j u hu)⟩
theorem Lies.drew (h : Lies w A xs) : Lies w.drew A xs := h
theorem Lies.take (h : Lies w A xs) (k : Nat) : Lies w A (xs.take k) := by
  rcases h with h | ⟨ad, hA, hlt, hc⟩
  · exact .inl (by simp [h])
  · exact .inr ⟨ad, hA, hlt, fun j u hu => hc j u (by rw [List.getElem?_take] at hu; split at hu <;> simp_all)⟩
theorem Lies.drop (h : Lies w A xs) {k cap : Nat} (hc : xs.length ≤ cap) : Lies w (if cap = k then A else A.map (·.add k)) (xs.drop k) := by
  rcases h with h | ⟨ad, hA, hlt, hcell⟩
  · exact .inl (by simp [h])
  · by_cases hk : xs.length ≤ k
    · exact .inl (List.drop_of_length_le hk)
    · refine .inr ⟨ad.add k, ?_, by rw [add_block]; exact hlt, fun j u hu => ?_⟩
      · rw [if_neg (by omega), hA]; rfl
      · rw [add_add]; exact hcell _ u (by rw [← hu, List.getElem?_drop])
theorem Lies.cell (h : Lies w A xs) {k : Nat} (hk : k < xs.length) : ∃ ad, A = some ad ∧ ad.block < w.heap.size ∧ w.cell? (ad.add k) = some xs[k] := by
  rcases h with h | ⟨ad, hA, hlt, hc⟩
  · subst h; simp at hk
  · exact ⟨ad, hA, hlt, hc k _ (List.getElem?_eq_getElem hk)⟩
theorem Lies.own {base : Nat} {e : TypeId} {n c : Nat} (h : w.ownsRow base e 1 (.slice A n c) n xs) : Lies w A xs := by
  rcases h.2 with ⟨_, h0⟩ | ⟨g, cap, cur, hv, _, hg, _⟩
  · exact .inl (List.eq_nil_of_length_eq_zero (by have := h.1; omega))
  · injection hv with hA _ _
    subst hA
    exact .inr ⟨_, rfl, (Array.getElem?_eq_some_iff.1 hg).1, h.cells (g := g) rfl⟩
/-- What is owned is a slice of so many, with no less room. -/
theorem own_shape {base : Nat} {e : TypeId} {n : Nat} {v : Value} (h : w.ownsRow base e 1 v n xs) :
    ∃ B c, v = .slice B n c ∧ n ≤ c ∧ c ≤ maxLen ∧ (∀ g, v.ownBlock = some g → base ≤ g) ∧ Lies w B xs ∧ xs.length = n := by
  have hl : xs.length = n := by simpa using h.1
  rcases h.2 with ⟨rfl, rfl⟩ | ⟨g, cap, cur, rfl, hb, hg, hnc, hcm, hcs, ht⟩
  · exact ⟨none, 0, rfl, Nat.le_refl _, by unfold maxLen; omega, by simp [Value.ownBlock], .inl (List.eq_nil_of_length_eq_zero hl), hl⟩
  · exact ⟨_, cap, rfl, hnc, hcm, by simp [Value.ownBlock]; exact hb, Lies.own h, hl⟩
end

/-- A byte, and bytes, as cells. -/
def bv (b : UInt8) : Value := .int .u8 (b.toNat : Int)
section

variable {P : Program} (w : World)
theorem run_append_lies (base : Nat) (t ty e : TypeId) (i : TypeInfo) (z : Value) (bytes : Nat) (ht : P.underlying t = some (.slice e)) (hi : P.info? e = some i) (hz : i.zero = some z)
    (hsize : i.size = 1) (hby : i.bytes = bytes) (hzs : z.cells.size = 1)
    (v : Value) (n : Nat) (xs : List Value) (hown : w.ownsRow base e 1 v n xs) (A : Option Addr) (m c : Nat) (hA : A = none → m = 0) (news : List Value) (hm : news.length = m) (hr : Lies w A news) (h1 : ∀ u ∈ news, u.oneCell' = true)
    (h63 : n + m ≤ maxLen) (hbytes : (n + m) * bytes ≤ 140737488355328) (hbase : base ≤ w.heap.size) :
    ∃ v' w', (Builtin.append_ #[t, t] ty #[v, .slice A m c]).run P w = .ok v' w' ∧ w'.ownsRow base e 1 v' (n + m) (xs ++ news) ∧ w.grownBy w' v.ownBlock ∧
      (v'.ownBlock = v.ownBlock ∨ v'.ownBlock = some w.heap.size) := by
  rcases A with _ | ad
  · have hm0 := hA rfl
    subst hm0
    have hn : news = [] := List.eq_nil_of_length_eq_zero hm
    subst hn
    refine ⟨v, w, ?_, by simpa using hown, World.grownBy.refl w _, .inl rfl⟩
    rcases hown.2 with ⟨rfl, rfl⟩ | ⟨g, cap, cur, rfl, _, _, hnc, _⟩
    · simp [Builtin.append_, run_underlying ht, sizeOf, typeInfo, hi, Builtin.lenOf, Builtin.firstCells]
    · simp [Builtin.append_, run_underlying ht, sizeOf, typeInfo, hi, Builtin.lenOf, Builtin.firstCells, hnc, storeCells]
  · have hcells : ∀ j u, news[j]? = some u → w.cell? (ad.add j) = some u := by
      intro j u hu
      rcases hr with hr | ⟨ad', hA, _, hc⟩
      · rw [hr] at hu; simp at hu
      · injection hA with hA; subst hA; exact hc j u hu
    obtain ⟨v', w', hrun, h2, h3, _, h5⟩ := run_append_own_at (P := P) w base t ty e i z 1 bytes ht hi hz hsize hby hzs (by omega) v n xs hown ad m c news (by omega) hcells h1 h63 hbytes hbase
    exact ⟨v', w', hrun, h2, h3, h5⟩

/-- append, at a call of the walk. -/
theorem wpList_append_lies {ops : Array Oper} {rest : List Oper} {o : Oper} {a : Act} {Q : Exit → Act → World → Prop} (hgd : o.guard = none) (s x : Operand) (t : TypeId)
    (ho : o.op = .call { callee := .builtin .append, args := #[s, x], argTypes := #[t, t] })
    (base : Nat) (e : TypeId) (i : TypeInfo) (z : Value) (bytes : Nat) (ht : P.underlying t = some (.slice e)) (hi : P.info? e = some i) (hz : i.zero = some z)
    (hsize : i.size = 1) (hby : i.bytes = bytes) (hzs : z.cells.size = 1)
    (v : Value) (n : Nat) (xs : List Value) (hs : a.eval s = v) (hown : w.ownsRow base e 1 v n xs) (A : Option Addr) (m c : Nat) (hx : a.eval x = .slice A m c) (hA : A = none → m = 0)
    (news : List Value) (hm : news.length = m) (hr : Lies w A news) (h1 : ∀ u ∈ news, u.oneCell' = true)
    (h63 : n + m ≤ maxLen) (hbytes : (n + m) * bytes ≤ 140737488355328) (hbase : base ≤ w.heap.size)
    (h : ∀ v' w', w'.ownsRow base e 1 v' (n + m) (xs ++ news) → w.grownBy w' v.ownBlock → (v'.ownBlock = v.ownBlock ∨ v'.ownBlock = some w.heap.size) → wpList P ops Q rest (a.put o.dst v') w') : wpList P ops Q (o :: rest) a w := by
  refine wpList_plain hgd fun K hK => ?_
  obtain ⟨v', w', hrun, h2, h3, h4⟩ := run_append_lies (P := P) w base t o.type e i z bytes ht hi hz hsize hby hzs v n xs hown A m c hA news hm hr h1 h63 hbytes hbase
  unfold Oper.wp execOp
  simp only [ho, resolve, invoke, builtin, Sem.run_bind, Sem.run_pure, Result.andThen_ok, List.map_toArray, List.map_cons, List.map_nil, hs, hx, hrun]
  exact hK _ _ (h v' w' h2 h3 h4)
end

/-- Behind an append to what the call owns, old memory is as it was. -/
theorem below_append {w0 w w' : World} {base : Nat} {e : TypeId} {v : Value} {n : Nat} {xs : List Value} (hb : Below base w0 w) (hown : w.ownsRow base e 1 v n xs) (hz : base ≤ w.heap.size) (hg : w.grownBy w' v.ownBlock) : Below base w0 w' :=
  hb.grown hg hz fun _ hk => (hown.lt _ hk).1

theorem cell_new (w : World) (u : Value) (t : TypeId) : Lies (w.alloc (.cells #[u] t)) (some ⟨w.heap.size, 0, none⟩) [u] := by
  refine .inr ⟨_, rfl, by simp, fun j v hv => ?_⟩
  match j, hv with
  | 0, hv => simp at hv; subst hv; simp [Addr.add]

/-- The facts on an element's type that appends ask: one cell, so many bytes. -/
structure Elem (P : Program) (t e : TypeId) (bytes : Nat) (z : Value) : Prop where
  under : P.underlying t = some (.slice e)
  one : z.cells = #[z]
  info : ∃ (i : TypeInfo), P.info? e = some i ∧ i.zero = some z ∧ i.size = 1 ∧ i.bytes = bytes

/-- append of one value, at a call of the walk: the row that the call owns has one more; old memory is as it was. -/
theorem wpList_push {P : Program} {W : World} {ops : Array Oper} {rest : List Oper} {o : Oper} {a : Act} {Q : Exit → Act → World → Prop} {t e : TypeId} {bytes : Nat} {z : Value} (E : Elem P t e bytes z)
    (hgd : o.guard = none) (s x : Operand) (ho : o.op = .call { callee := .builtin .append, args := #[s, x], argTypes := #[t, t] })
    (base : Nat) (v : Value) (n : Nat) (xs : List Value) (u : Value) (w w0 : World) (hs : a.eval s = v) (hx : a.eval x = .slice (some ⟨w.heap.size, 0, none⟩) 1 1) (hW : W = w.alloc (.cells #[u] e))
    (hu : u.oneCell' = true) (hown : w.ownsRow base e 1 v n xs) (hb : Below base w0 w) (hbase : base ≤ w.heap.size) (hn : n ≤ 1000000000) (hby : bytes ≤ 100)
    (h : ∀ v' w', w'.ownsRow base e 1 v' (n + 1) (xs ++ [u]) → Below base w0 w' → w.grownBy w' v.ownBlock → (v'.ownBlock = v.ownBlock ∨ v'.ownBlock = some (w.heap.size + 1)) → wpList P ops Q rest (a.put o.dst v') w') : wpList P ops Q (o :: rest) a W := by
  obtain ⟨i, h1, h2, h3, h4⟩ := E.info
  have h5 : z.cells.size = 1 := by rw [E.one]; rfl
  subst hW
  have hle : (n + 1) * bytes ≤ (n + 1) * 100 := Nat.mul_le_mul_left _ hby
  refine wpList_append_lies _ hgd s x t ho base e i z bytes E.under h1 h2 h3 h4 h5 v n xs hs (hown.alloc _) _ _ _ hx (by simp) [u] rfl (cell_new w u e) (by simpa using hu) (by unfold maxLen; omega) (by omega) (by simp; omega) ?_
  intro v' w' hown' hg hq
  refine h v' w' hown' (below_append (hb.alloc hbase _) (hown.alloc _) (by simp; omega) hg) ⟨hg.os, hg.tape, hg.output, Nat.le_trans (by simp) hg.size, fun k hk hne => (hg.block k (by simp; omega) hne).trans (Below.heap_alloc w _ k hk)⟩ (by simpa using hq)

/-- append of what lies somewhere, at a call of the walk. -/
theorem wpList_join {P : Program} {w : World} {ops : Array Oper} {rest : List Oper} {o : Oper} {a : Act} {Q : Exit → Act → World → Prop} {t e : TypeId} {bytes : Nat} {z : Value} (E : Elem P t e bytes z)
    (hgd : o.guard = none) (s x : Operand) (ho : o.op = .call { callee := .builtin .append, args := #[s, x], argTypes := #[t, t] })
    (base : Nat) (v : Value) (n : Nat) (xs : List Value) (A : Option Addr) (m c : Nat) (news : List Value) (w0 : World) (hs : a.eval s = v) (hx : a.eval x = .slice A m c)
    (hA : A = none → m = 0) (hm : news.length = m) (hr : Lies w A news) (h1 : ∀ u ∈ news, u.oneCell' = true)
    (hown : w.ownsRow base e 1 v n xs) (hb : Below base w0 w) (hbase : base ≤ w.heap.size) (hn : n + m ≤ 1000000000) (hby : bytes ≤ 100)
    (h : ∀ v' w', w'.ownsRow base e 1 v' (n + m) (xs ++ news) → Below base w0 w' → w.grownBy w' v.ownBlock → (v'.ownBlock = v.ownBlock ∨ v'.ownBlock = some w.heap.size) → wpList P ops Q rest (a.put o.dst v') w') : wpList P ops Q (o :: rest) a w := by
  obtain ⟨i, h2, h3, h4, h5⟩ := E.info
  have h6 : z.cells.size = 1 := by rw [E.one]; rfl
  have hle : (n + m) * bytes ≤ (n + m) * 100 := Nat.mul_le_mul_left _ hby
  refine wpList_append_lies _ hgd s x t ho base e i z bytes E.under h2 h3 h4 h5 h6 v n xs hs hown A m c hx hA news hm hr h1 (by unfold maxLen; omega) (by omega) hbase ?_
  intro v' w' hown' hg hq
  exact h v' w' hown' (below_append hb hown hbase hg) hg hq

/-- Block g is just the cells cs, none of them frozen. -/
def Row (w : World) (g : Nat) (t : TypeId) (cs : List Value) : Prop := w.heap[g]? = some (.cells cs.toArray t (0, 0))
section

variable {w w' : World} {g : Nat} {t : TypeId} {cs : List Value}
theorem Row.lt (h : Row w g t cs) : g < w.heap.size := (Array.getElem?_eq_some_iff.1 h).1
theorem Row.cell (h : Row w g t cs) (i : Nat) : w.cell? ⟨g, i, none⟩ = cs[i]? := by rw [cell_of_row w g i cs.toArray t (0, 0) h]; simp
theorem Row.free (h : Row w g t cs) (i : Nat) : w.frozen? ⟨g, i, none⟩ = false := by unfold Row at h; simp [World.frozen?, h]
theorem Row.set_ (h : Row w g t cs) (i : Nat) (u : Value) : Row (w.setCell ⟨g, i, none⟩ u) g t (cs.set i u) := by
  unfold Row at h ⊢
  simp [World.setCell, Array.getElem?_modify, h]
theorem Row.far (h : Row w g t cs) {p : Addr} (hp : g ≠ p.block) (u : Value) : Row (w.setCell p u) g t cs := (Below.heap_setCell w p u g hp).trans h
theorem Row.below {B : Nat} (h : Row w g t cs) (hb : Below B w w') (hg : g < B) : Row w' g t cs := (hb.block g hg).trans h
theorem Row.drew (h : Row w g t cs) : Row w.drew g t cs := h
theorem Row.alloc (h : Row w g t cs) (o : Obj) : Row (w.alloc o) g t cs := (Below.heap_alloc w o g h.lt).trans h
theorem Row.lies (h : Row w g t cs) (k : Nat) : Lies w (some ⟨g, k, none⟩) (cs.drop k) := by
  refine .inr ⟨_, rfl, h.lt, fun j u hu => ?_⟩
  rw [List.getElem?_drop] at hu
  have he : (⟨g, k, none⟩ : Addr).add j = ⟨g, k + j, none⟩ := by unfold Addr.add; split <;> simp_all
  rw [he, h.cell, hu]
end

/-- What a call answers that makes bytes anew. -/
def RetB (w : World) (l : List UInt8) (e : Ending) (w' : World) : Prop :=
  ∃ A c, e = .returned (.slice A l.length c) ∧ (A = none → l.length = 0) ∧ l.length ≤ c ∧ c ≤ maxLen ∧ Lies w' A (l.map bv) ∧ Below w.heap.size w w'

theorem ret_own {w0 w : World} {base : Nat} {e : TypeId} {v : Value} {n : Nat} {l : List UInt8} (hown : w.ownsRow base e 1 v n (l.map bv)) (hb : Below w0.heap.size w0 w) : RetB w0 l (.returned v) w := by
  obtain ⟨B, c, rfl, hnc, hcm, _, hl, hlen⟩ := own_shape hown
  rw [List.length_map] at hlen
  subst hlen
  refine ⟨B, c, rfl, ?_, hnc, hcm, hl, hb⟩
  intro hB
  subst hB
  rcases hl with hl | ⟨ad, h, _⟩
  · simpa using hl
  · cases h
end Go.Proofs.YtniniophoocalaaDoor

/- A region that draws its order, each of whose operations is shown once: what an operation yields is told by a fact that later worlds keep, so the order does not matter. Over any program. -/









namespace Go.Proofs.YtniniophoocalaaDoor

open Go.RowKit

def rdst (ops : Array Oper) (i : Nat) : Option Tmp := (ops[i]?).bind (·.dst)
/-- Operation i waits for operation j. -/
def rpred (ops : Array Oper) (j i : Nat) : Bool := ((ops[i]?).map fun o => o.after.toList.any fun e => Region.binds .any e && e.on == j).getD false

/-- The frame in which those operations of the first n that are marked have left their values. -/
def puts (ops : Array Oper) (m : Nat → Bool) (vs : Nat → Value) : Nat → Act → Act
  | 0, a => a
  | n + 1, a => if m n then (puts ops m vs n a).put (rdst ops n) (vs n) else puts ops m vs n a

/-- What is asked of the region's text: edges lead back; no two operations leave their values at one place; what an operation looks at is left by one that it waits for, or by one that waits for it. -/
def regionOk (ops : Array Oper) (size : Nat) : Bool :=
  (List.range ops.size).all fun i =>
    ((ops[i]?).map fun o =>
      (o.after.all fun e => !Region.binds .any e || decide (e.on < i)) &&
      (match o.op with | .select .. => false | _ => true) &&
      (match o.dst with | some d => decide (d < size) && (List.range ops.size).all (fun j => j == i || rdst ops j != some d) | none => true) &&
      ((o.looksAt ops).all fun d => (List.range ops.size).all fun j => j == i || rdst ops j != some d || rpred ops j i || rpred ops i j)).getD false

section

variable {P : Program} {ops : Array Oper} {Q : Exit → Act → World → Prop}

theorem puts_congr (m m' : Nat → Bool) (vs vs' : Nat → Value) (a : Act) : ∀ n, (∀ j, j < n → m j = m' j) → (∀ j, j < n → m j = true → vs j = vs' j) → puts ops m vs n a = puts ops m' vs' n a := by
  intro n
  induction n with
  | zero => intro _ _; rfl
  | succ n ih =>
    intro h1 h2
    rw [puts, puts, ih (fun j hj => h1 j (by omega)) (fun j hj => h2 j (by omega)), ← h1 n (by omega)]
    by_cases hm : m n = true
    · rw [if_pos hm, if_pos hm, h2 n (by omega) hm]
    · rw [if_neg hm, if_neg hm]

theorem puts_size (m : Nat → Bool) (vs : Nat → Value) (a : Act) : ∀ n, (puts ops m vs n a).tmps.size = a.tmps.size := by
  intro n
  induction n with
  | zero => rfl
  | succ n ih =>
    rw [puts]
    split
    · unfold Act.put; split <;> simp [ih]
    · exact ih

theorem puts_old (m : Nat → Bool) (vs : Nat → Value) (a : Act) (d : Tmp) : ∀ n, (∀ j, j < n → m j = true → rdst ops j ≠ some d) → (puts ops m vs n a).tmps[d]? = a.tmps[d]? := by
  intro n
  induction n with
  | zero => intro _; rfl
  | succ n ih =>
    intro h
    rw [puts]
    split
    · rename_i hm
      rw [← ih fun j hj => h j (by omega)]
      have hne := h n (by omega) hm
      cases hd : rdst ops n with
      | none => rfl
      | some e =>
        rw [hd] at hne
        exact Array.getElem?_setIfInBounds_ne (fun he => hne (by rw [he]))
    · exact ih fun j hj => h j (by omega)

theorem puts_new (m : Nat → Bool) (vs : Nat → Value) (a : Act) (d : Tmp) (i : Nat) (hd : rdst ops i = some d) (hm : m i = true) : ∀ n, i < n → (∀ j, j < n → j ≠ i → rdst ops j ≠ some d) →
    (puts ops m vs n a).tmps[d]? = (a.put (some d) (vs i)).tmps[d]? := by
  intro n
  induction n with
  | zero => intro h; omega
  | succ n ih =>
    intro hi hne
    rw [puts]
    by_cases hin : i = n
    · subst hin
      rw [if_pos hm, hd]
      simp only [Act.put, Array.getElem?_setIfInBounds_self, puts_size]
    · split
      · rw [← ih (by omega) fun j hj => hne j (by omega)]
        have hne' := hne n (by omega) (fun h => hin h.symm)
        cases hd' : rdst ops n with
        | none => rfl
        | some e =>
          rw [hd'] at hne'
          exact Array.getElem?_setIfInBounds_ne (fun he => hne' (by rw [he]))
      · exact ih (by omega) fun j hj => hne j (by omega)

theorem puts_set (m : Nat → Bool) (vs : Nat → Value) (a : Act) (i : Nat) (v : Value) (hm : m i = false) : ∀ n, i < n → (∀ j, j < n → j ≠ i → ∀ d, rdst ops i = some d → rdst ops j ≠ some d) →
    puts ops (fun j => j == i || m j) (fun j => if j = i then v else vs j) n a = (puts ops m vs n a).put (rdst ops i) v := by
  intro n
  induction n with
  | zero => intro h; omega
  | succ n ih =>
    intro hi hne
    show (if (n == i || m n) = true then (puts ops (fun j => j == i || m j) (fun j => if j = i then v else vs j) n a).put (rdst ops n) (if n = i then v else vs n) else puts ops (fun j => j == i || m j) (fun j => if j = i then v else vs j) n a) =
      (if m n = true then (puts ops m vs n a).put (rdst ops n) (vs n) else puts ops m vs n a).put (rdst ops i) v
    by_cases hin : n = i
    · have h0 : puts ops (fun j => j == i || m j) (fun j => if j = i then v else vs j) n a = puts ops m vs n a := by
        refine puts_congr _ _ _ _ a n (fun j hj => ?_) (fun j hj _ => ?_)
        · have : (j == i) = false := by simp; omega
          simp [this]
        · simp; omega
      rw [h0]
      subst hin
      rw [if_pos (by simp), if_pos rfl, if_neg (by simp [hm])]
    · have h1 : (n == i || m n) = m n := by
        have : (n == i) = false := by simp; omega
        simp [this]
      rw [ih (by omega) fun j hj => hne j (by omega), h1, if_neg hin]
      split
      · exact Act.put_comm _ v (vs n) fun d hd => hne n (by omega) hin d hd
      · rfl

/-- An operation in one frame, where in another it yields what a fact tells. -/
theorem wp_carry {o : Oper} {a b : Act} {w : World} {R : Value → World → Prop} {K : Act → World → Prop} (he : execOp a.eval o = execOp b.eval o) (hd : ∀ d, o.dst = some d → d < b.tmps.size)
    (h : o.wp P b w (fun b' w' => ∃ v, b' = b.put o.dst v ∧ R v w') (fun _ _ _ => False)) (hK : ∀ v w', R v w' → K (a.put o.dst v) w') : o.wp P a w K Q := by
  have hv : ∀ u v w', b.put o.dst u = b.put o.dst v → R v w' → K (a.put o.dst u) w' := by
    intro u v w' heq hR
    cases hdst : o.dst with
    | none =>
      have := hK v w' hR
      rw [hdst] at this
      exact this
    | some d =>
      have hlt := hd d hdst
      rw [hdst] at heq
      have h1 : (b.put (some d) u).tmps[d]? = (b.put (some d) v).tmps[d]? := by rw [heq]
      simp only [Act.put, Array.getElem?_setIfInBounds_self, hlt, if_true] at h1
      injection h1 with h1
      subst h1
      have := hK u w' hR
      rw [hdst] at this
      exact this
  unfold Oper.wp at *
  rw [he]
  generalize (execOp b.eval o).run P w = r at *
  cases r with
  | ok n w' =>
    cases n <;> simp only [Oper.upon] at h ⊢
    case value u => obtain ⟨v, h1, h2⟩ := h; exact hv u v w' h1 h2
    case skip => obtain ⟨v, h1, h2⟩ := h; exact hv _ v w' h1 h2
    case defer d =>
      obtain ⟨v, h1, h2⟩ := h
      exfalso
      have h3 : (({ b with defers := d :: b.defers } : Act).put o.dst undef).defers = (b.put o.dst v).defers := by rw [h1]
      have h4 : ∀ (x : Act) (u : Value), (x.put o.dst u).defers = x.defers := by intro x u; unfold Act.put; split <;> rfl
      rw [h4, h4] at h3
      have := congrArg List.length h3
      simp at this
    case enter f args =>
      refine Calls.mono h fun e w'' he => ?_
      cases e with
      | returned u => obtain ⟨v, h1, h2⟩ := he; exact hv u v w'' h1 h2
      | panicked c => exact he.elim
      | outgrown => obtain ⟨_, _, hf⟩ := he; exact hf.elim
    case row row args => exact Rows.mono h fun u w'' ⟨v, h1, h2⟩ => hv u v w'' h1 h2
  | halt x w' =>
    cases x <;> simp only [Oper.upon] at h

/-- What regionOk says, operation by operation. -/
theorem regionOk_at {size i : Nat} {o : Oper} (h : regionOk ops size = true) (ho : ops[i]? = some o) :
    (∀ e ∈ o.after, Region.binds .any e = true → e.on < i) ∧ (∀ cs b, o.op ≠ .select cs b) ∧ (∀ d, o.dst = some d → d < size ∧ ∀ j, j < ops.size → j ≠ i → rdst ops j ≠ some d) ∧
    (∀ d ∈ o.looksAt ops, ∀ j, j < ops.size → j ≠ i → rdst ops j = some d → rpred ops j i = true ∨ rpred ops i j = true) := by
  have hlt : i < ops.size := (Array.getElem?_eq_some_iff.1 ho).1
  unfold regionOk at h
  rw [List.all_eq_true] at h
  have h1 := h i (List.mem_range.2 hlt)
  rw [ho, Option.map_some, Option.getD_some] at h1
  simp only [Bool.and_eq_true] at h1
  obtain ⟨⟨⟨h2, h3⟩, h4⟩, h5⟩ := h1
  refine ⟨fun e he hbd => ?_, fun cs b hs => ?_, fun d hd => ?_, fun d hd j hj hne hdj => ?_⟩
  · rw [Array.all_eq_true_iff_forall_mem] at h2
    have h6 := h2 e he
    rw [hbd, Bool.not_true, Bool.false_or] at h6
    exact of_decide_eq_true h6
  · rw [hs] at h3; cases h3
  · rw [hd] at h4
    simp only [Bool.and_eq_true, List.all_eq_true, decide_eq_true_eq] at h4
    refine ⟨h4.1, fun j hj hne hdj => ?_⟩
    have h6 := h4.2 j (List.mem_range.2 hj)
    rw [hdj] at h6
    simp at h6
    exact hne h6
  · rw [List.all_eq_true] at h5
    have h6 := h5 d hd
    rw [List.all_eq_true] at h6
    have h7 := h6 j (List.mem_range.2 hj)
    rw [hdj] at h7
    simp at h7
    rcases h7 with (h7 | h7) | h7
    · exact absurd h7 hne
    · exact .inl h7
    · exact .inr h7

theorem wanted_congr {o : Oper} {a b : Act} (h : ∀ d ∈ o.looksAt ops, a.tmps[d]? = b.tmps[d]?) : Region.wanted o (yielded ops a.tmps) = Region.wanted o (yielded ops b.tmps) := by
  unfold Region.wanted
  cases hg : o.guard with
  | none => rfl
  | some p =>
    obtain ⟨g, want⟩ := p
    have hy : yielded ops a.tmps g = yielded ops b.tmps g := by
      unfold yielded
      cases hd : (ops[g]?).bind (·.dst) with
      | none => rfl
      | some d =>
        have := h d (List.mem_append_right _ (by rw [hg]; simp [hd]))
        simp only [Option.bind_some, this]
    simp only [hy]

/-- How many operations are still to come. -/
def left (n : Nat) (l : Array Bool) : Nat := ((List.range n).filter fun i => !l.getD i false).length

theorem left_set_in {n : Nat} {l : Array Bool} {i : Nat} (hi : i < n) (hs : n ≤ l.size) (h : l.getD i false = false) : left n (l.setIfInBounds i true) < left n l := by
  unfold left
  have hsub : (List.range n).filter (fun j => !(l.setIfInBounds i true).getD j false) = ((List.range n).filter fun j => !l.getD j false).filter (fun j => !(l.setIfInBounds i true).getD j false) := by
    rw [List.filter_filter]
    refine List.filter_congr fun j hj => ?_
    by_cases hij : i = j
    · subst hij
      have : i < l.size := by omega
      simp [this]
    · rw [getD_set_ne false hij, Bool.and_self]
  rw [hsub]
  have hmem : i ∈ (List.range n).filter fun j => !l.getD j false := List.mem_filter.2 ⟨List.mem_range.2 hi, by rw [h]; rfl⟩
  refine Nat.lt_of_le_of_ne (List.length_filter_le _ _) fun heq => ?_
  have := List.length_filter_eq_length_iff.1 heq i hmem
  have : i < l.size := by omega
  simp_all
theorem puts_cut (mk : Nat → Bool) (vs : Nat → Value) (a : Act) (m : Nat) : ∀ n, m ≤ n → (∀ j, m ≤ j → j < n → mk j = false) → puts ops mk vs n a = puts ops mk vs m a
  | 0, h, _ => by rw [Nat.le_zero.1 h]
  | n + 1, h, hk => by
    by_cases he : m = n + 1
    · subst he; rfl
    · rw [puts, if_neg (by rw [hk n (by omega) (by omega)]; decide), puts_cut mk vs a m n (by omega) fun j h1 h2 => hk j h1 (by omega)]
theorem wpAny_more {md : Region.Mode} : ∀ (f : Nat) (l : Array Bool) (a : Act) (w : World), wpAny P md ops Q f l a w → wpAny P md ops Q (f + 1) l a w
  | 0, _, _, _, h => ⟨fun _ => h.2, fun i hi => by rw [h.1] at hi; cases hi⟩
  | f + 1, l, a, w, h => ⟨h.1, fun i hi => wpOp_mono (fun a' w' h' => wpAny_more f _ a' w' h') (h.2 i hi)⟩
theorem wpAny_add {md : Region.Mode} (f g : Nat) (l : Array Bool) (a : Act) (w : World) (h : wpAny P md ops Q g l a w) : wpAny P md ops Q (f + g) l a w := by
  induction f with
  | zero => rwa [Nat.zero_add]
  | succ f ih => rw [show f + 1 + g = (f + g) + 1 by omega]; exact wpAny_more _ _ _ _ ih
/-- **A region that draws, whose first m operations are each shown once** (the frame: as the text's order gives it); what follows them is shown from where all these have been done. -/
theorem wpAny_region_core {a0 : Act} {w0 : World} (m : Nat) (hm : m ≤ ops.size) (F : Nat → Value → World → Prop)
    (hok : regionOk ops a0.tmps.size = true)
    (hF : ∀ i v w w', F i v w → Below w.heap.size w w' → F i v w')
    (hstep : ∀ i o, i < m → ops[i]? = some o → ∀ (vs : Nat → Value) (w : World), Below w0.heap.size w0 w → (∀ j, rpred ops j i = true → F j (vs j) w) →
      if Region.wanted o (yielded ops (puts ops (fun _ => true) vs i a0).tmps) = true then
        o.wp P (puts ops (fun _ => true) vs i a0) w (fun a' w' => ∃ v, a' = (puts ops (fun _ => true) vs i a0).put o.dst v ∧ F i v w' ∧ Below w.heap.size w w') (fun _ _ _ => False)
      else F i undef w)
    (hwait : ∀ l : Array Bool, HeadInv .any ops m l → (∃ i, i < m ∧ l.getD i true = false) → ∀ t, m ≤ t → t ∉ Region.ready .any ops l)
    (hfin : ∀ (l : Array Bool) (vs : Nat → Value) (w : World), l.size = ops.size → (∀ j, j < m → l.getD j false = true) → (∀ j, m ≤ j → j < ops.size → l.getD j false = false) → Below w0.heap.size w0 w → (∀ i, i < m → F i (vs i) w) →
      wpAny P .any ops Q (ops.size - m) l (puts ops (fun _ => true) vs m a0) w) :
    wpAny P .any ops Q ops.size (Array.replicate ops.size false) a0 { w0 with drawn := w0.drawn + 1 } := by
  have main : ∀ (fuel : Nat) (l : Array Bool) (vs : Nat → Value) (w : World), l.size = ops.size → left m l ≤ fuel → (∀ i j, i < ops.size → l.getD i false = true → rpred ops j i = true → l.getD j false = true) →
      (∀ t, m ≤ t → t < ops.size → l.getD t false = false) →
      (∀ i, i < ops.size → l.getD i false = true → F i (vs i) w) → Below w0.heap.size w0 w → wpAny P .any ops Q (fuel + (ops.size - m)) l (puts ops (fun j => l.getD j false) vs ops.size a0) w := by
    intro fuel
    have hend : ∀ (f : Nat) (l : Array Bool) (vs : Nat → Value) (w : World), l.size = ops.size → (∀ t, m ≤ t → t < ops.size → l.getD t false = false) → (∀ i, i < ops.size → l.getD i false = true → F i (vs i) w) → Below w0.heap.size w0 w → (∀ j, j < m → l.getD j false = true) →
        wpAny P .any ops Q (f + (ops.size - m)) l (puts ops (fun j => l.getD j false) vs ops.size a0) w := by
      intro f l vs w hs htl hfs hb hall
      rw [puts_cut _ vs a0 m ops.size hm htl, puts_congr (fun j => l.getD j false) (fun _ => true) vs vs a0 m hall (fun _ _ _ => rfl)]
      exact wpAny_add _ _ _ _ _ (hfin l vs w hs hall htl hb fun i hi => hfs i (by omega) (hall i hi))
    induction fuel with
    | zero =>
      intro l vs w hs hl hcl htl hfs hb
      refine hend 0 l vs w hs htl hfs hb fun j hj => ?_
      cases h1 : l.getD j false with
      | true => rfl
      | false => have := left_set_in hj (by omega) h1; omega
    | succ fuel ih =>
      intro l vs w hs hl hcl htl hfs hb
      by_cases hall : ∀ j, j < m → l.getD j false = true
      · exact hend _ l vs w hs htl hfs hb hall
      obtain ⟨j0, hj0⟩ := Classical.not_forall.1 hall
      have hj0m : j0 < m := by
        rcases Nat.lt_or_ge j0 m with h | h
        · exact h
        · exact absurd (fun h' => absurd h' (by omega)) hj0
      have hj0f : l.getD j0 false = false := by
        cases h1 : l.getD j0 false with
        | false => rfl
        | true => exact absurd (fun _ => h1) hj0
      have hinv : HeadInv .any ops m l := by
        refine ⟨hs, fun j oj hj hlj e he hbd => ?_, fun t ht ht' => getD_in (by omega) (htl t ht ht')⟩
        refine hcl j e.on (Array.getElem?_eq_some_iff.1 hj).1 hlj ?_
        unfold rpred
        rw [hj, Option.map_some, Option.getD_some, List.any_eq_true]
        exact ⟨e, by simpa using he, by rw [hbd]; simp⟩
      have hwt := hwait l hinv ⟨j0, hj0m, getD_in (by omega) hj0f⟩
      rw [show fuel + 1 + (ops.size - m) = (fuel + (ops.size - m)) + 1 by omega]
      refine ⟨fun hr => ?_, fun i hi => ?_⟩
      · exfalso
        have hallb : ∀ i, i < m → l.getD i false = true := by
          intro i
          induction i using Nat.strongRecOn with
          | ind i ih =>
            intro hi
            by_cases hl : l.getD i false = true
            · exact hl
            · exfalso
              have ho : ops[i]? = some ops[i] := Array.getElem?_eq_getElem (by omega)
              have hok' := regionOk_at hok ho
              have hmem : i ∈ Region.ready .any ops l := mem_ready.2 ⟨by
                have : i < l.size := by omega
                simp [this] at hl ⊢
                exact hl, ops[i], ho, fun e he hbd => ih e.on (hok'.1 e he hbd) (by have := hok'.1 e he hbd; omega)⟩
              rw [hr] at hmem
              cases hmem
        exact absurd (hallb j0 hj0m) (by rw [hj0f]; decide)
      have him : i < m := by
        rcases Nat.lt_or_ge i m with h | h
        · exact h
        · exact absurd hi (hwt i h)
      obtain ⟨h0, o, ho, hpre⟩ := mem_ready.1 hi
      have hlt : i < ops.size := (Array.getElem?_eq_some_iff.1 ho).1
      have h1 : l.getD i false = false := by
        have : i < l.size := by omega
        simp [this] at h0 ⊢
        exact h0
      obtain ⟨hback, hsel, hdst, hlook⟩ := regionOk_at hok ho
      have hpred : ∀ j, rpred ops j i = true → l.getD j false = true ∧ j < i := by
        intro j hj
        unfold rpred at hj
        rw [ho, Option.map_some, Option.getD_some, List.any_eq_true] at hj
        obtain ⟨e, he, hej⟩ := hj
        have he : e ∈ o.after := by simpa using he
        simp at hej
        rw [← hej.2]
        exact ⟨hpre e he hej.1, hback e he hej.1⟩
      have hrd : rdst ops i = o.dst := by unfold rdst; rw [ho]; rfl
      -- what the operation looks at is the same in both frames
      have hsame : ∀ d ∈ o.looksAt ops, (puts ops (fun j => l.getD j false) vs ops.size a0).tmps[d]? = (puts ops (fun _ => true) vs i a0).tmps[d]? := by
        intro d hd
        by_cases hex : ∃ j, j < ops.size ∧ j ≠ i ∧ rdst ops j = some d
        · obtain ⟨j, hj, hne, hjd⟩ := hex
          have hoj : ops[j]? = some ops[j] := Array.getElem?_eq_getElem hj
          have hdj : ops[j].dst = some d := by unfold rdst at hjd; rw [hoj] at hjd; exact hjd
          have huniq : ∀ k, k < ops.size → k ≠ j → rdst ops k ≠ some d := fun k hk hkj => ((regionOk_at hok hoj).2.2.1 d hdj).2 k hk hkj
          rcases hlook d hd j hj hne hjd with hp | hp
          · obtain ⟨hlj, hji⟩ := hpred j hp
            rw [puts_new _ vs a0 d j hjd hlj ops.size hj huniq, puts_new _ vs a0 d j hjd rfl i hji fun k hk => huniq k (by omega)]
          · have hnl : l.getD j false = false := by
              cases hlj : l.getD j false with
              | false => rfl
              | true => exact absurd (hcl j i hj hlj hp) (by rw [h1]; decide)
            have hij : i < j := by
              unfold rpred at hp
              rw [hoj, Option.map_some, Option.getD_some, List.any_eq_true] at hp
              obtain ⟨e, he, hej⟩ := hp
              have he : e ∈ ops[j].after := by simpa using he
              simp at hej
              have := (regionOk_at hok hoj).1 e he hej.1
              omega
            rw [puts_old _ vs a0 d ops.size, puts_old _ vs a0 d i]
            · intro k hk _ hkd
              exact huniq k (by omega) (by omega) hkd
            · intro k hk hlk hkd
              by_cases hkj : k = j
              · subst hkj; rw [hnl] at hlk; cases hlk
              · exact huniq k hk hkj hkd
        · rw [puts_old _ vs a0 d ops.size, puts_old _ vs a0 d i]
          · intro k hk _ hkd; exact hex ⟨k, by omega, by omega, hkd⟩
          · intro k hk hlk hkd
            by_cases hki : k = i
            · subst hki; rw [h1] at hlk; cases hlk
            · exact hex ⟨k, hk, hki, hkd⟩
      have hst := hstep i o him ho vs w hb fun j hj => hfs j (by have := (hpred j hj).2; omega) (hpred j hj).1
      have hwant := wanted_congr hsame
      have hexec : execOp (puts ops (fun j => l.getD j false) vs ops.size a0).eval o = execOp (puts ops (fun _ => true) vs i a0).eval o := by
        refine execOp_congr o hsel fun x hx => ?_
        cases x with
        | tmp d =>
          have hd : d ∈ o.looksAt ops := List.mem_append_left _ (List.mem_filterMap.2 ⟨.tmp d, by simpa using hx, rfl⟩)
          have := hsame d hd
          show (puts ops (fun j => l.getD j false) vs ops.size a0).tmps.getD d undef = (puts ops (fun _ => true) vs i a0).tmps.getD d undef
          rw [Array.getD_eq_getD_getElem?, Array.getD_eq_getD_getElem?, this]
        | _ => rfl
      -- behind it
      have hnext : ∀ v w', F i v w' → Below w.heap.size w w' → wpAny P .any ops Q (fuel + (ops.size - m)) (l.setIfInBounds i true) ((puts ops (fun j => l.getD j false) vs ops.size a0).put o.dst v) w' := by
        intro v w' hv hb'
        have hset := puts_set (ops := ops) (fun j => l.getD j false) vs a0 i v h1 ops.size hlt fun j hj hne d hd => (hdst d (by rw [← hrd]; exact hd)).2 j hj hne
        rw [← hrd, ← hset]
        have hmarks : ∀ j, j < ops.size → (j == i || l.getD j false) = (l.setIfInBounds i true).getD j false := by
          intro j hj
          by_cases hij : i = j
          · subst hij; simp [hs, hlt]
          · rw [getD_set_ne false hij]
            have : (j == i) = false := by simp; omega
            simp [this]
        rw [puts_congr _ (fun j => (l.setIfInBounds i true).getD j false) _ (fun j => if j = i then v else vs j) a0 ops.size hmarks (fun _ _ _ => rfl)]
        refine ih (l.setIfInBounds i true) _ w' (by simp [hs]) (by have := left_set_in him (by omega) h1; omega) ?_ ?_ ?_ (hb.trans (hb'.mono hb.size))
        · intro j k hj hlj hjk
          rw [← hmarks j hj] at hlj
          by_cases hji : j = i
          · subst hji; exact getD_set_true (hpred k hjk).1
          · have : (j == i) = false := by simpa using hji
            rw [this, Bool.false_or] at hlj
            exact getD_set_true (hcl j k hj hlj hjk)
        · intro t ht ht'
          rw [getD_set_ne false (by omega)]
          exact htl t ht ht'
        · intro j hj hlj
          rw [← hmarks j hj] at hlj
          by_cases hji : j = i
          · subst hji; simpa using hv
          · have : (j == i) = false := by simpa using hji
            rw [this, Bool.false_or] at hlj
            simp only [if_neg hji]
            exact hF j _ w w' (hfs j hj hlj) hb'
      unfold wpOp
      rw [ho]
      show if Region.wanted o _ = true then _ else _
      rw [hwant]
      by_cases hw : Region.wanted o (yielded ops (puts ops (fun _ => true) vs i a0).tmps) = true
      · rw [if_pos hw] at hst ⊢
        exact .inl (wp_carry hexec (fun d hd => by rw [puts_size]; exact (hdst d hd).1) hst fun v w' h => hnext v w' h.1 h.2)
      · rw [if_neg hw] at hst ⊢
        exact hnext undef w hst (Below.refl _ _)
  have hinit := main m (Array.replicate ops.size false) (fun _ => undef) { w0 with drawn := w0.drawn + 1 } (by simp) (by unfold left; exact Nat.le_trans (List.length_filter_le _ _) (by simp))
    (fun i j hi h _ => by simp [hi] at h) (fun t _ _ => getD_replicate_false _ _) (fun i hi h => by simp [hi] at h) ⟨rfl, rfl, rfl, Nat.le_refl _, fun _ _ => rfl⟩
  have hz : puts ops (fun j => (Array.replicate ops.size false).getD j false) (fun _ => undef) ops.size a0 = a0 := by
    have : ∀ n, n ≤ ops.size → puts ops (fun j => (Array.replicate ops.size false).getD j false) (fun _ => undef) n a0 = a0 := by
      intro n
      induction n with
      | zero => intro _; rfl
      | succ n ih =>
        intro hn
        have hlt : n < ops.size := by omega
        rw [puts, if_neg (by simp [hlt]), ih (by omega)]
    exact this _ (Nat.le_refl _)
  rw [hz, show m + (ops.size - m) = ops.size by omega] at hinit
  exact hinit

/-- **A region that draws**: each operation is shown once, in the frame that the text's order gives it, knowing of what it waits for; behind the region all facts hold. -/
theorem wpAny_region_facts {a0 : Act} {w0 : World} (F : Nat → Value → World → Prop)
    (hok : regionOk ops a0.tmps.size = true)
    (hF : ∀ i v w w', F i v w → Below w.heap.size w w' → F i v w')
    (hstep : ∀ i o, ops[i]? = some o → ∀ (vs : Nat → Value) (w : World), Below w0.heap.size w0 w → (∀ j, rpred ops j i = true → F j (vs j) w) →
      if Region.wanted o (yielded ops (puts ops (fun _ => true) vs i a0).tmps) = true then
        o.wp P (puts ops (fun _ => true) vs i a0) w (fun a' w' => ∃ v, a' = (puts ops (fun _ => true) vs i a0).put o.dst v ∧ F i v w' ∧ Below w.heap.size w w') (fun _ _ _ => False)
      else F i undef w)
    (hfin : ∀ (vs : Nat → Value) (w : World), Below w0.heap.size w0 w → (∀ i, i < ops.size → F i (vs i) w) → Q .normal (puts ops (fun _ => true) vs ops.size a0) w) :
    wpAny P .any ops Q ops.size (Array.replicate ops.size false) a0 { w0 with drawn := w0.drawn + 1 } := by
  refine wpAny_region_core ops.size (Nat.le_refl _) F hok hF (fun i o _ => hstep i o) (fun l _ _ t ht hr => ?_) fun l vs w hs hall _ hb hf => ?_
  · obtain ⟨_, o, ho, _⟩ := mem_ready.1 hr
    have := (Array.getElem?_eq_some_iff.1 ho).1
    omega
  · rw [Nat.sub_self]
    refine ⟨List.eq_nil_iff_forall_not_mem.2 fun i hi => ?_, hfin vs w hb hf⟩
    obtain ⟨h0, o, ho, _⟩ := mem_ready.1 hi
    have hlt := (Array.getElem?_eq_some_iff.1 ho).1
    have h1 := hall i hlt
    have : i < l.size := by omega
    simp [this] at h0 h1
    rw [h0] at h1
    cases h1
/-- Which operation, of those that i waits for, leaves what lies at place d. -/
def writer (ops : Array Oper) (i d : Nat) : Option Nat := (List.range ops.size).find? fun j => rdst ops j == some d && rpred ops j i

/-- What operation i sees: of what it waits for the values, else the frame as it was. -/
def sees (ops : Array Oper) (vs : Nat → Value) (a0 : Act) (i : Nat) : Operand → Value
  | .tmp d => match writer ops i d with | some j => vs j | none => a0.eval (.tmp d)
  | x => a0.eval x

/-- What is known of what an operation sees. -/
structure RCtx (ops : Array Oper) (F : Nat → Value → World → Prop) (a0 : Act) (i : Nat) (ρ : Operand → Value) (w : World) : Prop where
  const : ∀ v, ρ (.const v) = v
  func : ∀ f, ρ (.func f) = .func (.func f) #[] #[]
  glob : ∀ g, ρ (.global g) = .pointer (some ⟨g, 0, none⟩)
  new : ∀ d j, writer ops i d = some j → F j (ρ (.tmp d)) w
  old : ∀ d v, writer ops i d = none → a0.eval (.tmp d) = v → ρ (.tmp d) = v

/-- An operation yields a value of which R tells. -/
def Gives (P : Program) (o : Oper) (ρ : Operand → Value) (w : World) (R : Value → World → Prop) : Prop :=
  match (execOp ρ o).run P w with
  | .ok (.value v) w' => R v w'
  | .ok .skip w' => R undef w'
  | .ok (.enter f args) w' => Calls P f args w' fun e w'' => ∃ v, e = .returned v ∧ R v w''
  | _ => False

/-- What is to be shown of operation i. -/
def StepAt (P : Program) (ops : Array Oper) (F : Nat → Value → World → Prop) (a0 : Act) (w0 : World) (i : Nat) (o : Oper) : Prop :=
  ∀ (ρ : Operand → Value) (w : World), Below w0.heap.size w0 w → RCtx ops F a0 i ρ w →
    match o.guard with
    | none => Gives P o ρ w fun v w' => F i v w' ∧ Below w.heap.size w w'
    | some (g, b) => ∀ d, rdst ops g = some d → (ρ (.tmp d) = .bool b → Gives P o ρ w fun v w' => F i v w' ∧ Below w.heap.size w w') ∧ (ρ (.tmp d) ≠ .bool b → F i undef w)

def StepsFrom (P : Program) (ops : Array Oper) (F : Nat → Value → World → Prop) (a0 : Act) (w0 : World) : Nat → List Oper → Prop
  | _, [] => True
  | i, o :: r => StepAt P ops F a0 w0 i o ∧ StepsFrom P ops F a0 w0 (i + 1) r

theorem stepsFrom_at {F : Nat → Value → World → Prop} {a0 : Act} {w0 : World} : ∀ (l : List Oper) (k : Nat), StepsFrom P ops F a0 w0 k l → ∀ i o, l[i]? = some o → StepAt P ops F a0 w0 (k + i) o := by
  intro l
  induction l with
  | nil => intro k _ i o h; simp at h
  | cons x l ih =>
    intro k hs i o h
    cases i with
    | zero => simp at h; subst h; exact hs.1
    | succ i =>
      have := ih (k + 1) hs.2 i o (by simpa using h)
      rwa [Nat.add_assoc, Nat.add_comm 1] at this

/-- Guards name an operation that leaves a value, and are waited for. -/
def guardsOk (ops : Array Oper) : Bool :=
  (List.range ops.size).all fun i => ((ops[i]?).map fun o => match o.guard with | none => true | some (g, _) => (rdst ops g).isSome).getD false

theorem wp_of_gives {o : Oper} {a : Act} {ρ : Operand → Value} {w : World} {R : Value → World → Prop} {Q : Exit → Act → World → Prop} (he : execOp a.eval o = execOp ρ o) (h : Gives P o ρ w R) :
    o.wp P a w (fun a' w' => ∃ v, a' = a.put o.dst v ∧ R v w') Q := by
  unfold Gives at h
  unfold Oper.wp
  rw [he]
  generalize (execOp ρ o).run P w = r at *
  cases r with
  | ok n w' =>
    cases n <;> simp only [Oper.upon] at h ⊢
    case value u => exact ⟨u, rfl, h⟩
    case skip => exact ⟨_, rfl, h⟩
    case enter f args =>
      refine Calls.mono h fun e w'' he => ?_
      obtain ⟨v, rfl, hv⟩ := he
      exact ⟨v, rfl, hv⟩
  | halt x w' => cases x <;> simp only [] at h

/-- **A region that draws**, in the form in which it is used: a fact for each operation, a step for each. -/
theorem region_step {a0 : Act} {w0 : World} (F : Nat → Value → World → Prop)
    (hok : regionOk ops a0.tmps.size = true) (hgd : guardsOk ops = true)
    (i : Nat) (o : Oper) (ho : ops[i]? = some o) (hst : StepAt P ops F a0 w0 i o) (vs : Nat → Value) (w : World) (hb : Below w0.heap.size w0 w) (hp : ∀ j, rpred ops j i = true → F j (vs j) w) :
      if Region.wanted o (yielded ops (puts ops (fun _ => true) vs i a0).tmps) = true then
        o.wp P (puts ops (fun _ => true) vs i a0) w (fun a' w' => ∃ v, a' = (puts ops (fun _ => true) vs i a0).put o.dst v ∧ F i v w' ∧ Below w.heap.size w w') (fun _ _ _ => False)
      else F i undef w := by
  have hlt : i < ops.size := (Array.getElem?_eq_some_iff.1 ho).1
  obtain ⟨hback, hsel, hdst, hlook⟩ := regionOk_at hok ho
  have hpi : ∀ j, rpred ops j i = true → j < i := by
    intro j hj
    unfold rpred at hj
    rw [ho, Option.map_some, Option.getD_some, List.any_eq_true] at hj
    obtain ⟨e, he, hej⟩ := hj
    simp at hej
    rw [← hej.2]
    exact hback e (by simpa using he) hej.1
  have hw : ∀ d j, writer ops i d = some j → rdst ops j = some d ∧ rpred ops j i = true ∧ j < ops.size := by
    intro d j h
    have h1 := List.find?_some h
    have h2 := List.mem_of_find?_eq_some h
    simp at h1
    exact ⟨h1.1, h1.2, List.mem_range.1 h2⟩
  have hctx : RCtx ops F a0 i (sees ops vs a0 i) w := by
    refine ⟨fun _ => rfl, fun _ => rfl, fun _ => rfl, fun d j h => ?_, fun d v h hv => ?_⟩
    · show F j (match writer ops i d with | some j => vs j | none => a0.eval (.tmp d)) w
      rw [h]
      exact hp j (hw d j h).2.1
    · show (match writer ops i d with | some j => vs j | none => a0.eval (.tmp d)) = v
      rw [h]
      exact hv
  -- what it looks at is what it sees
  have hsee : ∀ d ∈ o.looksAt ops, (puts ops (fun _ => true) vs i a0).tmps.getD d undef = sees ops vs a0 i (.tmp d) := by
    intro d hd
    show _ = (match writer ops i d with | some j => vs j | none => a0.eval (.tmp d))
    cases hwr : writer ops i d with
    | some j =>
      obtain ⟨h1, h2, h3⟩ := hw d j hwr
      have hoj : ops[j]? = some ops[j] := Array.getElem?_eq_getElem h3
      have hdj : ops[j].dst = some d := by unfold rdst at h1; rw [hoj] at h1; exact h1
      have hu := (regionOk_at hok hoj).2.2.1 d hdj
      have hpn := puts_new (ops := ops) (fun _ => true) vs a0 d j h1 rfl i (hpi j h2) fun k hk => hu.2 k (by omega)
      rw [Array.getD_eq_getD_getElem?, hpn]
      simp [Act.put, hu.1]
    | none =>
      have hno : ∀ j, j < i → rdst ops j ≠ some d := by
        intro j hj hjd
        have h1 := hlook d hd j (by omega) (by omega) hjd
        rcases h1 with h1 | h1
        · have h2 := List.find?_eq_none.1 hwr j (List.mem_range.2 (by omega))
          simp [hjd, h1] at h2
        · have hoj : ops[j]? = some ops[j] := Array.getElem?_eq_getElem (by omega)
          unfold rpred at h1
          rw [hoj, Option.map_some, Option.getD_some, List.any_eq_true] at h1
          obtain ⟨e, he, hej⟩ := h1
          simp at hej
          have := (regionOk_at hok hoj).1 e (by simpa using he) hej.1
          omega
      show _ = a0.tmps.getD d undef
      rw [Array.getD_eq_getD_getElem?, Array.getD_eq_getD_getElem?, puts_old (ops := ops) (fun _ => true) vs a0 d i fun j hj _ => hno j hj]
  have hexec : execOp (puts ops (fun _ => true) vs i a0).eval o = execOp (sees ops vs a0 i) o := by
    refine execOp_congr o hsel fun x hx => ?_
    cases x with
    | tmp d => exact hsee d (List.mem_append_left _ (List.mem_filterMap.2 ⟨.tmp d, by simpa using hx, rfl⟩))
    | _ => rfl
  have h1 := hst (sees ops vs a0 i) w hb hctx
  cases hg : o.guard with
  | none =>
    rw [hg] at h1
    have hwa : Region.wanted o (yielded ops (puts ops (fun _ => true) vs i a0).tmps) = true := by unfold Region.wanted; rw [hg]
    rw [if_pos hwa]
    exact wp_of_gives hexec h1
  | some p =>
    obtain ⟨g, b⟩ := p
    rw [hg] at h1
    have hgo : (rdst ops g).isSome = true := by
      unfold guardsOk at hgd
      rw [List.all_eq_true] at hgd
      have := hgd i (List.mem_range.2 hlt)
      rw [ho, Option.map_some, Option.getD_some, hg] at this
      exact this
    obtain ⟨d, hd⟩ := Option.isSome_iff_exists.1 hgo
    obtain ⟨hyes, hno⟩ := h1 d hd
    have hdl : d ∈ o.looksAt ops := List.mem_append_right _ (by rw [hg]; show d ∈ ((ops[g]?).bind (·.dst)).toList; have : (ops[g]?).bind (·.dst) = some d := hd; rw [this]; simp)
    have hv := hsee d hdl
    by_cases hw : Region.wanted o (yielded ops (puts ops (fun _ => true) vs i a0).tmps) = true
    · rw [if_pos hw]
      refine wp_of_gives hexec (hyes ?_)
      rw [← hv]
      unfold Region.wanted at hw
      rw [hg] at hw
      have hd' : (ops[g]?).bind (·.dst) = some d := hd
      simp only [yielded, hd', Option.bind_some] at hw
      rw [Array.getD_eq_getD_getElem?]
      cases hx : (puts ops (fun _ => true) vs i a0).tmps[d]? with
      | none => rw [hx] at hw; simp at hw
      | some v =>
        rw [hx] at hw
        cases v <;> simp at hw
        subst hw
        rfl
    · rw [if_neg hw]
      refine hno fun h => hw ?_
      rw [← hv, Array.getD_eq_getD_getElem?] at h
      unfold Region.wanted
      rw [hg]
      have hd' : (ops[g]?).bind (·.dst) = some d := hd
      simp only [yielded, hd', Option.bind_some]
      cases hx : (puts ops (fun _ => true) vs i a0).tmps[d]? with
      | none => rw [hx] at h; cases h
      | some v =>
        rw [hx] at h
        have h : v = .bool b := h
        subst h
        simp
theorem stepsFrom_all {F : Nat → Value → World → Prop} {a0 : Act} {w0 : World} (h : StepsFrom P ops F a0 w0 0 ops.toList) (i : Nat) (o : Oper) (ho : ops[i]? = some o) : StepAt P ops F a0 w0 i o := by
  have := stepsFrom_at ops.toList 0 h i o (by simpa using ho)
  simpa using this
theorem wpAny_region_steps {a0 : Act} {w0 : World} (F : Nat → Value → World → Prop)
    (hok : regionOk ops a0.tmps.size = true) (hgd : guardsOk ops = true)
    (hF : ∀ i v w w', F i v w → Below w.heap.size w w' → F i v w')
    (hsteps : StepsFrom P ops F a0 w0 0 ops.toList)
    (hfin : ∀ (vs : Nat → Value) (w : World), Below w0.heap.size w0 w → (∀ i, i < ops.size → F i (vs i) w) → Q .normal (puts ops (fun _ => true) vs ops.size a0) w) :
    wpAny P .any ops Q ops.size (Array.replicate ops.size false) a0 { w0 with drawn := w0.drawn + 1 } :=
  wpAny_region_facts F hok hF (fun i o ho => region_step F hok hgd i o ho (stepsFrom_all hsteps i o ho)) hfin
end

end Go.Proofs.YtniniophoocalaaDoor

/- Operations of a region, one by one: what each yields. Over any program. -/











namespace Go.Proofs.YtniniophoocalaaDoor

open Go.RowKit

section

variable {P : Program} {o : Oper} {ρ : Operand → Value} {w w' : World} {R : Value → World → Prop}

theorem gives_of {v : Value} (h : (execOp ρ o).run P w = .ok (.value v) w') (hR : R v w') : Gives P o ρ w R := by
  unfold Gives; rw [h]; exact hR
theorem gives_move {x : Operand} {v : Value} (ho : o.op = .move x) (hx : ρ x = v) (hR : R v w) : Gives P o ρ w R := by
  refine gives_of (v := v) (w' := w) ?_ hR
  simp [execOp, ho, hx]
theorem gives_assign {x : Operand} {v : Value} (ho : o.op = .assign x) (hx : ρ x = v) (hR : R v w) : Gives P o ρ w R := by
  refine gives_of (v := v) (w' := w) ?_ hR
  simp [execOp, ho, hx]
/-- A call of a Go function, by its contract. -/
theorem gives_call {f : FuncId} {xs : Array Operand} {ts : Array TypeId} {args : Array Value} (ho : o.op = .call { callee := .value (.func f), args := xs, argTypes := ts })
    (hent : ∀ (args : Array Value) (w : World), (callFunc f args).run P w = .ok (.enter f args) w) (hf : ρ (.func f) = .func (.func f) #[] #[]) (ha : xs.map ρ = args)
    (h : Calls P f args w fun e w' => ∃ v, e = .returned v ∧ R v w') : Gives P o ρ w R := by
  have hr : (execOp ρ o).run P w = .ok (.enter f args) w := by
    simp [execOp, ho, resolve, hf, ha, Deferred.ofValue, invoke, hent]
  unfold Gives
  rw [hr]
  exact h
theorem gives_inteq {t t' : TypeId} {k : IntKind} {x y : Operand} {a b : Int} (ho : o.op = .binOp .eql t x y t') (hx : ρ x = .int k a) (hy : ρ y = .int k b) (hR : R (.bool (a == b)) w) : Gives P o ρ w R := by
  refine gives_of (v := .bool (a == b)) (w' := w) ?_ hR
  simp [execOp, ho, hx, hy, go_sem, eqGuard]
theorem gives_intne {t t' : TypeId} {k : IntKind} {x y : Operand} {a b : Int} (ho : o.op = .binOp .neq t x y t') (hx : ρ x = .int k a) (hy : ρ y = .int k b) (hR : R (.bool (a != b)) w) : Gives P o ρ w R := by
  refine gives_of (v := .bool (a != b)) (w' := w) ?_ hR
  simp [execOp, ho, hx, hy, go_sem, eqGuard]
theorem gives_pick_t {c x y : Operand} {v : Value} (ho : o.op = .pick c x y) (hc : ρ c = .bool true) (hx : ρ x = v) (hR : R v w) : Gives P o ρ w R := by
  refine gives_of (v := v) (w' := w) ?_ hR
  simp [execOp, ho, hc, hx, go_sem]
theorem gives_pick_f {c x y : Operand} {v : Value} (ho : o.op = .pick c x y) (hc : ρ c = .bool false) (hy : ρ y = v) (hR : R v w) : Gives P o ρ w R := by
  refine gives_of (v := v) (w' := w) ?_ hR
  simp [execOp, ho, hc, hy, go_sem]
theorem Elem.size_ {t e : TypeId} {bytes : Nat} {z : Value} (E : Elem P t e bytes z) (w : World) : (sizeOf e).run P w = .ok 1 w := by
  obtain ⟨i, h1, _, h3, _⟩ := E.info
  simp [sizeOf, typeInfo, h1, h3]
end

/-- What is known of a value, and stays known in later worlds. -/
structure Fact where
  holds : Value → World → Prop
  stays : ∀ v w w', holds v w → Below w.heap.size w w' → holds v w'
def Fact.any : Fact := ⟨fun _ _ => True, fun _ _ _ _ _ => trivial⟩
def Fact.is (u : Value) : Fact := ⟨fun v _ => v = u, fun _ _ _ h _ => h⟩
/-- A slice that holds bytes. -/
def IsB (l : List UInt8) (v : Value) (w : World) : Prop := ∃ A c, v = .slice A l.length c ∧ (A = none → l.length = 0) ∧ l.length ≤ c ∧ c ≤ maxLen ∧ Lies w A (l.map bv)
theorem IsB.below {l : List UInt8} {v : Value} {w w' : World} (h : IsB l v w) (hb : Below w.heap.size w w') : IsB l v w' := by
  obtain ⟨A, c, h1, h2, h3, h4, h5⟩ := h
  exact ⟨A, c, h1, h2, h3, h4, h5.below hb⟩
def Fact.bytes (l : List UInt8) : Fact := ⟨IsB l, fun _ _ _ h hb => h.below hb⟩
def facts (L : List Fact) (i : Nat) : Value → World → Prop := (L.getD i Fact.any).holds

theorem RetB.isB {w w' : World} {l : List UInt8} {e : Ending} (h : RetB w l e w') : ∃ v, e = .returned v ∧ IsB l v w' ∧ Below w.heap.size w w' := by
  obtain ⟨A, c, h1, h2, h3, h4, h5, h6⟩ := h
  exact ⟨_, h1, ⟨A, c, rfl, h2, h3, h4, h5⟩, h6⟩

theorem IsB.ret {w w' : World} {l : List UInt8} {v : Value} (h : IsB l v w') (hb : Below w.heap.size w w') : RetB w l (.returned v) w' := by
  obtain ⟨A, c, rfl, h2, h3, h4, h5⟩ := h
  exact ⟨A, c, rfl, h2, h3, h4, h5, hb⟩

/-- The frame behind a region: each operation's value at its place, in the order of the text. -/
def putAll (vs : Nat → Value) : List (Option Tmp) → Nat → Act → Act
  | [], _, a => a
  | d :: r, i, a => putAll vs r (i + 1) (a.put d (vs i))
theorem putAll_snoc (vs : Nat → Value) (d : Option Tmp) : ∀ (l : List (Option Tmp)) (i : Nat) (a : Act), putAll vs (l ++ [d]) i a = (putAll vs l i a).put d (vs (i + l.length)) := by
  intro l
  induction l with
  | nil => intro i a; rfl
  | cons x l ih => intro i a; show putAll vs (l ++ [d]) (i + 1) (a.put x (vs i)) = _; rw [ih]; simp only [putAll, List.length_cons]; congr 2; omega
theorem puts_some (ops : Array Oper) (vs : Nat → Value) (a : Act) : ∀ n, n ≤ ops.size → puts ops (fun _ => true) vs n a = putAll vs ((ops.toList.take n).map (·.dst)) 0 a := by
    intro n
    induction n with
    | zero => intro _; rfl
    | succ n ih =>
      intro hn
      have hlt : n < ops.toList.length := by simp; omega
      rw [puts, if_pos rfl, ih (by omega), List.take_succ_eq_append_getElem hlt, List.map_append, List.map_cons, List.map_nil, putAll_snoc]
      have h1 : rdst ops n = ops.toList[n].dst := by unfold rdst; rw [Array.getElem?_eq_getElem (by omega)]; simp
      have h2 : ((ops.toList.take n).map (·.dst)).length = n := by rw [List.length_map, List.length_take]; omega
      rw [h1, h2, Nat.zero_add]
theorem puts_all (ops : Array Oper) (vs : Nat → Value) (a : Act) : puts ops (fun _ => true) vs ops.size a = putAll vs (ops.toList.map (·.dst)) 0 a := by
  rw [puts_some ops vs a ops.size (Nat.le_refl _), List.take_of_length_le (by simp)]

theorem wpAny_region_list {P : Program} {ops : Array Oper} {Q : Exit → Act → World → Prop} {a0 : Act} {w0 : World} (L : List Fact) (ds : List (Option Tmp))
    (hok : regionOk ops a0.tmps.size = true) (hgd : guardsOk ops = true) (hds : ops.toList.map (·.dst) = ds) (hsteps : StepsFrom P ops (facts L) a0 w0 0 ops.toList)
    (hfin : ∀ (vs : Nat → Value) (w : World), Below w0.heap.size w0 w → (∀ i, i < ds.length → facts L i (vs i) w) → Q .normal (putAll vs ds 0 a0) w) :
    wpAny P .any ops Q ops.size (Array.replicate ops.size false) a0 { w0 with drawn := w0.drawn + 1 } :=
  wpAny_region_steps (facts L) hok hgd (fun i v w w' h hb => (L.getD i Fact.any).stays v w w' h hb) hsteps (fun vs w hb h => by
    subst hds
    rw [puts_all]
    exact hfin vs w hb fun i hi => h i (by simpa using hi))
theorem wp_region_list {P : Program} {ops : Array Oper} {Q : Exit → Act → World → Prop} {id : Nat} {a0 : Act} {w0 : World} (L : List Fact) (ds : List (Option Tmp)) (hm : P.follows .mixedOrders = true)
    (hok : regionOk ops a0.tmps.size = true) (hgd : guardsOk ops = true) (hds : ops.toList.map (·.dst) = ds) (hsteps : StepsFrom P ops (facts L) a0 w0 0 ops.toList)
    (hfin : ∀ (vs : Nat → Value) (w : World), Below w0.heap.size w0 w → (∀ i, i < ds.length → facts L i (vs i) w) → Q .normal (putAll vs ds 0 a0) w) :
    (Code.region id ops true).wp P Q a0 w0 := wp_region_any hm (wpAny_region_list L ds hok hgd hds hsteps hfin)
end Go.Proofs.YtniniophoocalaaDoor

/- From a law's walk to its row: the law answers true and leaves old memory as it was, so each argument reads behind the call as it read before. Over any program. -/















namespace Go.Proofs.YtniniophoocalaaDoor

open Go.RowKit Go.ChangeShapes Go.WideShapes Go.ChangeAt

section

variable {H : Type} {enc : TypeId × Value → H} {P : Program}

theorem trodAll_later (hl : laidOutB P = true) {W W' : World} (hb : Below W.heap.size W W') :
    ∀ {ts : List TypeId} {vs : List Value} {ds : List (DataW H)} {ps : List MemPlace}, (ts.all fun t => P.readableRec t && decide (t < P.types.size)) = true →
      DataW.TrodAll enc P W 0 (fun _ => true) true ts vs ds ps → (∀ x ∈ ps, x.block < W.heap.size) → DataW.TrodAll enc P W' 0 (fun b => decide (b < W.heap.size)) true ts vs ds ps
  | [], _, _, _, _, h, _ => by
    obtain ⟨rfl, rfl, rfl⟩ := trodAll_nil h
    exact rfl
  | t :: ts, _, _, _, hr, h, hlt => by
    obtain ⟨v, vs1, d, ds1, a, b, rfl, rfl, rfl, h1, h2⟩ := trodAll_cons h
    simp only [List.all_cons, Bool.and_eq_true, decide_eq_true_eq] at hr
    exact ⟨a, b, Below.trod hl hr.1.1 hr.1.2 h1 hb (fun x hx => hlt x (List.mem_append_left _ hx)), trodAll_later hl hb hr.2 h2 (fun x hx => hlt x (List.mem_append_right _ hx)), rfl⟩

/-- What a law's row asks behind the call. -/
theorem law_post {f : Func} {s : ChangeSpec} {tb : TypeId} {W W' : World} {args : Array Value} {ds : List (DataW H)} {before : List MemPlace} (hl : laidOutB P = true) (htb : P.underlying tb = some .bool)
    (hrt : f.resultTypes = #[tb]) (hpar : (f.params.toList.all fun t => P.readableRec t && decide (t < P.types.size)) = true) (hvars : s.vars = [])
    (hW : DataW.Whole enc P f.params.toList s.vars false W args.toList ds [] before) (hfn : s.fn H (ds ++ []) = { results := [.lit (.bool true)], args := ds }) (hb : Below W.heap.size W W') :
    s.post enc P f false true false false W args (.bool true) W' := by
  obtain ⟨p, q, hA, hV, hpq, hfz, hnd⟩ := hW
  have hW : DataW.Whole enc P f.params.toList s.vars false W args.toList ds [] before := ⟨p, q, hA, hV, hpq, hfz, hnd⟩
  refine ⟨ds, [], before, [], p, [], hW, ?_, ?_, ?_, hb.frame _, fun h => by cases h⟩
  · rw [hfn, hrt]
    exact trodAll_cons_mk (shut_bool htb _) trodAll_mk0
  · rw [hfn]
    exact trodAll_later hl hb hpar hA fun x hx => hW.lt x (by rw [hpq]; exact List.mem_append_left _ hx)
  · rw [hfn, hvars]
    rfl
theorem stand_ins {P : Program} {ps : Array TypeId} {j : Nat} {t : TypeId} (h : (ps.toList.all fun u => !P.wantsStandIn u) = true) (ht : ps[j]? = some t) : P.wantsStandIn t = false := by
  have := List.all_eq_true.1 h t (by simpa using Array.mem_of_getElem? ht)
  simpa using this
end

end Go.Proofs.YtniniophoocalaaDoor

/- What every law's text of this program uses on its way to the row. -/





namespace Go.Proofs.YtniniophoocalaaDoor

open Go.RowKit

theorem wf_i64 {x : Int} (h : (Lit.int .i64 x).wf = true) : -9223372036854775808 ≤ x ∧ x ≤ 9223372036854775807 := by
  simpa [Lit.wf, IntKind.min, IntKind.max, IntKind.signed, IntKind.bits] using h
theorem own : ownKnob Tryd.prog.godebug = none := by kernel_rfl
theorem laidOut : laidOutB Tryd.prog = true := by kernel_rfl
end Go.Proofs.YtniniophoocalaaDoor

/- What the contracts of all layers share: endings, bytes and an error that a call answers, slices of the call's own. Over any program but for the last lines. -/



























namespace Go.Proofs.YtniniophoocalaaDoor

open Go.RowKit

theorem ret_int {k : IntKind} {a b : Int} (h : a = b) : Ending.returned (.int k a) = .returned (.int k b) := by rw [h]
theorem below_then {a b c : World} (h : Below a.heap.size a b) (k : Below b.heap.size b c) : Below a.heap.size a c := h.trans (k.mono h.size)

/-- Bytes and an error that a call answers. -/
def RetE (w : World) (p : List UInt8 × Int) (e : Ending) (w' : World) : Prop := ∃ v, e = .returned (.tuple #[v, .int .i64 p.2]) ∧ IsB p.1 v w' ∧ Below w.heap.size w w'
theorem isB_nil (w : World) : IsB [] (.slice none 0 0) w := ⟨none, 0, rfl, by simp, by simp, by unfold maxLen; omega, Lies.nil⟩
theorem RetE.nil {w w' : World} (n : Int) (hb : Below w.heap.size w w') : RetE w ([], n) (.returned (.tuple #[.slice none 0 0, .int .i64 n])) w' := ⟨_, rfl, isB_nil _, hb⟩
theorem isB_own {w : World} {base : Nat} {e : TypeId} {v : Value} {n : Nat} {l : List UInt8} (h : w.ownsRow base e 1 v n (l.map bv)) : IsB l v w := by
  obtain ⟨v', h1, h2, _⟩ := (ret_own (w0 := w) (l := l) h (Below.refl _ _)).isB
  injection h1 with h1
  subst h1
  exact h2
theorem own_below {w w' : World} {base size n : Nat} {e : TypeId} {v : Value} {xs : List Value} (h : w.ownsRow base e size v n xs) (hb : Below w.heap.size w w') : w'.ownsRow base e size v n xs :=
  ⟨h.1, h.2.elim .inl fun ⟨g, cap, cur, hv, hg, hc, r⟩ => .inr ⟨g, cap, cur, hv, hg, (hb.block g (Array.getElem?_eq_some_iff.1 hc).1).trans hc, r⟩⟩
theorem own_base {w : World} {base base' : Nat} {e : TypeId} {v : Value} {n : Nat} {xs : List Value} (hb : base' ≤ base) (h : w.ownsRow base e 1 v n xs) : w.ownsRow base' e 1 v n xs :=
  ⟨h.1, h.2.imp id fun ⟨g, cap, cur, h1, h2, h3⟩ => ⟨g, cap, cur, h1, Nat.le_trans hb h2, h3⟩⟩
/-- Bytes in a row of the call's own. -/
def OwnB (w : World) (l : List UInt8) (v : Value) (w' : World) : Prop := ∃ n, w'.ownsRow w.heap.size 5 1 v n (l.map bv)
theorem OwnB.nil (w w' : World) : OwnB w [] (.slice none 0 0) w' := ⟨0, World.ownsRow_nil _ _ _ _⟩
theorem OwnB.below {w w1 w2 : World} {l : List UInt8} {v : Value} (h : OwnB w l v w1) (hb : Below w1.heap.size w1 w2) : OwnB w l v w2 := h.elim fun _ h => ⟨_, own_below h hb⟩
theorem OwnB.base {w0 w w' : World} {l : List UInt8} {v : Value} (hb : w0.heap.size ≤ w.heap.size) (h : OwnB w l v w') : OwnB w0 l v w' := h.elim fun _ h => ⟨_, own_base hb h⟩
/-- Bytes in a row of the call's own, and an error. -/
def RetEO (w : World) (p : List UInt8 × Int) (e : Ending) (w' : World) : Prop := ∃ v, e = .returned (.tuple #[v, .int .i64 p.2]) ∧ w'.ownsRow w.heap.size 5 1 v p.1.length (p.1.map bv) ∧ Below w.heap.size w w'
theorem RetEO.e {w w' : World} {p : List UInt8 × Int} {e : Ending} (h : RetEO w p e w') : RetE w p e w' := by
  obtain ⟨v, h1, h2, h3⟩ := h
  exact ⟨v, h1, isB_own h2, h3⟩
theorem RetEO.nil {w w' : World} (n : Int) (hb : Below w.heap.size w w') : RetEO w ([], n) (.returned (.tuple #[.slice none 0 0, .int .i64 n])) w' := ⟨_, rfl, World.ownsRow_nil _ _ _ _, hb⟩
end Go.Proofs.YtniniophoocalaaDoor

/- Structs in blocks of their own, and results that lie in cells. Over any program. -/







namespace Go.Proofs.YtniniophoocalaaDoor

open Go.RowKit

section

variable {P : Program} {o : Oper} {ρ : Operand → Value} {w : World} {R : Value → World → Prop}
/-- A load of one cell, of a value in many cells, and a slice literal of one value: as operations of a region. -/
theorem gives_load {t : TypeId} {x : Operand} {p : Addr} {v : Value} {d : TypeDesc} (ho : o.op = .load t x) (hx : ρ x = .pointer (some p)) (hu : P.underlying t = some d) (hd : (match d with | .struct _ | .array _ _ => true | _ => false) = false)
    (hc : w.cell? p = some v) (hR : R v w) : Gives P o ρ w R := by
  refine gives_of (v := v) (w' := w) ?_ hR
  have hl : (loadVar t p).run P w = .ok v w := by
    have ha : (isAgg t).run P w = .ok false w := by
      unfold isAgg
      rw [Sem.run_bind, run_underlying hu]
      cases d <;> first | rfl | cases hd
    simp [loadVar, ha, hc]
  simp [execOp, ho, hx, Instr.loadAt, Instr.sureAddr, hl]
theorem gives_load_row {t t' : TypeId} {x : Operand} {g : Nat} {cs : List Value} {d : TypeDesc} (ho : o.op = .load t x) (hx : ρ x = .pointer (some ⟨g, 0, none⟩)) (hu : P.underlying t = some d) (hd : (match d with | .struct _ | .array _ _ => true | _ => false) = true)
    (hi : (P.info? t).map (·.size) = some cs.length) (hr : Row w g t' cs) (hR : R (.agg cs.toArray) w) : Gives P o ρ w R := by
  refine gives_of (v := .agg cs.toArray) (w' := w) ?_ hR
  have hl := run_loadVar_row w g t' t cs.toArray (0, 0) d hr hu hd (by simpa using hi)
  simp [execOp, ho, hx, Instr.loadAt, Instr.sureAddr, hl]
/-- x[k] of an array in a block of its own: the place. -/
theorem gives_index_arr {t e : TypeId} {n g k : Nat} {x y : Operand} (ht : P.underlying t = some (.array n e)) (hsz : ∀ W, (sizeOf e).run P W = .ok 1 W) (ho : o.op = .indexAddr t x y) (hx : ρ x = .pointer (some ⟨g, 0, none⟩)) (hy : ρ y = .int .i64 (k : Int)) (hk : k < n)
    (hR : R (.pointer (some ⟨g, k, none⟩)) w) : Gives P o ρ w R := by
  refine gives_of (v := .pointer (some ⟨g, k, none⟩)) (w' := w) ?_ hR
  have ha : (⟨g, 0, none⟩ : Addr).add k = ⟨g, k, none⟩ := by unfold Addr.add; split <;> simp_all
  have h := run_indexAt_array w t ⟨g, 0, none⟩ .i64 (k : Int) (by rw [ht]; simp [Program.arrayLen, Program.elem, ht])
  simp only [Program.arrayLen, Program.elem, ht] at h
  rw [if_pos ⟨by omega, by omega⟩] at h
  simp [execOp, ho, hx, hy, h, hsz, ha]
end

end Go.Proofs.YtniniophoocalaaDoor

/- Package-level tables: from what a row lists of a variable to the block in which it lies. Over any program. -/















namespace Go.Proofs.YtniniophoocalaaDoor

open Go.RowKit Go.ChangeShapes Go.WideShapes Go.ChangeAt

theorem run_index_array {P : Program} (w : World) (t e : TypeId) (n : Nat) (cs : List Value) (k : IntKind) (i : Nat) (h : P.underlying t = some (.array n e)) (hn : i < n) (hs : ∀ w, (sizeOf e).run P w = .ok 1 w) (ha : ∀ w, (isAgg e).run P w = .ok false w) (v : Value) (hv : cs[i]? = some v) :
    (Instr.index t (.agg cs.toArray) (.int k (i : Int))).run P w = .ok v w := by
  simp [Instr.index, run_underlying h, asIntOf, hn, go_sem, hs, ha, hv]
end Go.Proofs.YtniniophoocalaaDoor

/- Bits packed one behind the other, as plain mathematics: a row of bytes, and a row of numbers of one width, each as one number. -/

namespace Go.Proofs.YtniniophoocalaaDoor

end Go.Proofs.YtniniophoocalaaDoor

/- Bits of bytes in a walk: what layers 3 and 6 share. Over any program. -/





namespace Go.Proofs.YtniniophoocalaaDoor

open Go.RowKit

end Go.Proofs.YtniniophoocalaaDoor

/- Slices of values of one cell, of whatever kind (numbers, truths, texts): f tells a value's cell. Over any program but for the last lines. -/







namespace Go.Proofs.YtniniophoocalaaDoor

open Go.RowKit Go.ChangeShapes Go.WideShapes Go.ChangeAt

/-- The slice v holds l. (IsB is this at bv, IsU at uv.) -/
def IsV {α : Type} (f : α → Value) (l : List α) (v : Value) (w : World) : Prop := ∃ A c, v = .slice A l.length c ∧ (A = none → l.length = 0) ∧ l.length ≤ c ∧ c ≤ maxLen ∧ Lies w A (l.map f)
section

variable {α : Type} {f : α → Value} {l : List α} {v : Value} {w w' : World}
theorem IsV.below (h : IsV f l v w) (hb : Below w.heap.size w w') : IsV f l v w' := by
  obtain ⟨A, c, h1, h2, h3, h4, h5⟩ := h
  exact ⟨A, c, h1, h2, h3, h4, h5.below hb⟩
theorem isV_nil (f : α → Value) (w : World) : IsV f [] (.slice none 0 0) w := ⟨none, 0, rfl, by simp, by simp, by unfold maxLen; omega, Lies.nil⟩
theorem isV_row {g : Nat} {t : TypeId} {m : Nat} (h : Row w g t (l.map f)) (hl : l.length = m) (hm : m ≤ 1000000) : IsV f l (.slice (some ⟨g, 0, none⟩) m m) w := by
  subst hl
  exact ⟨_, _, rfl, by simp, Nat.le_refl _, by unfold maxLen; omega, by simpa using h.lies 0⟩
theorem isV_new (f : α → Value) (w : World) (t : TypeId) (l : List α) (m : Nat) (hl : l.length = m) (hm : m ≤ 1000000) : IsV f l (.slice (some ⟨w.heap.size, 0, none⟩) m m) (w.alloc (.cells (l.map f).toArray t)) := by
  have h : Row (w.alloc (.cells (l.map f).toArray t)) w.heap.size t (l.map f) := heap_alloc_new w _
  exact isV_row h hl hm
theorem isV_own {base : Nat} {e : TypeId} {n : Nat} (h : w.ownsRow base e 1 v n (l.map f)) : IsV f l v w := by
  obtain ⟨B, c, rfl, hnc, hcm, _, hl, hlen⟩ := own_shape h
  rw [List.length_map] at hlen
  subst hlen
  refine ⟨B, c, rfl, ?_, hnc, hcm, hl⟩
  intro hB
  subst hB
  rcases hl with hl | ⟨ad, h, _⟩
  · simpa using hl
  · cases h
theorem vs_one {f : α → Value} (h : ∀ x, (f x).oneCell' = true) (l : List α) : ∀ u ∈ l.map f, u.oneCell' = true := by
  intro u hu
  obtain ⟨b, _, rfl⟩ := List.mem_map.1 hu
  exact h b
theorem IsV.cell (h : IsV f l v w) {k : Nat} (hk : k < l.length) : ∃ ad c, v = .slice (some ad) l.length c ∧ ad.block < w.heap.size ∧ w.cell? (ad.add k) = some (f l[k]) := by
  obtain ⟨A, c, h1, _, _, _, h5⟩ := h
  obtain ⟨ad, rfl, h2, h3⟩ := h5.cell (k := k) (by rw [List.length_map]; exact hk)
  exact ⟨ad, c, h1, h2, by rw [h3, List.getElem_map]⟩
theorem IsV.at {A : Option Addr} {n c : Nat} (h : IsV f l (.slice A n c) w) {k : Nat} (hk : k < l.length) : ∃ ad, A = some ad ∧ ad.block < w.heap.size ∧ w.cell? (ad.add k) = some (f l[k]) := by
  obtain ⟨ad, c', h1, h2, h3⟩ := h.cell hk
  injection h1 with h1 _ _
  exact ⟨ad, h1, h2, h3⟩
theorem IsV.len {A : Option Addr} {n c : Nat} (h : IsV f l (.slice A n c) w) : n = l.length := by
  obtain ⟨A', c', h1, _⟩ := h
  injection h1
/-- The first k of it, by x[:k]. -/
theorem IsV.take {A : Option Addr} {n c : Nat} (h : IsV f l (.slice A n c) w) {k : Nat} (hk : k ≤ n) : IsV f (l.take k) (.slice A k c) w := by
  obtain ⟨A', c', h1, h2, h3, h4, h5⟩ := h
  injection h1 with e1 e2 e3
  subst e1 e2 e3
  have hl : (l.take k).length = k := by rw [List.length_take]; omega
  exact ⟨A, c, by rw [hl], fun h => by have := h2 h; omega, by rw [hl]; omega, h4, by rw [List.map_take]; exact h5.take k⟩
end
/-- What is known of a slice that is written out. -/
theorem IsV.parts {α : Type} {f : α → Value} {l : List α} {w : World} {A : Option Addr} {n c : Nat} (h : IsV f l (.slice A n c) w) : l.length = n ∧ (A = none → n = 0) ∧ n ≤ c ∧ c ≤ maxLen ∧ Lies w A (l.map f) := by
  obtain ⟨A', c', h1, h2, h3, h4, h5⟩ := h
  injection h1 with e1 e2 e3
  subst e1 e2 e3
  exact ⟨rfl, h2, h3, h4, h5⟩
theorem IsV.shape {α : Type} {f : α → Value} {l : List α} {v : Value} {w : World} (h : IsV f l v w) : ∃ A n c, v = .slice A n c := by
  obtain ⟨A', c', h1, _⟩ := h
  exact ⟨_, _, _, h1⟩
/-- Whole numbers with a sign. -/
def iv (x : Int) : Value := .int .i64 x
def inInt (x : Int) : Prop := -9223372036854775808 ≤ x ∧ x ≤ 9223372036854775807
theorem Tryd.infoI : (Tryd.prog.info? 3).map (fun i => (i.zero, i.size, i.bytes)) = some (some (.int .i64 0), 1, 8) := by kernel_rfl
theorem elemI : Elem Tryd.prog 49 3 8 (.int .i64 0) := by
  obtain ⟨i0, hi, hz0, hz1, hz2⟩ := info_parts Tryd.infoI
  exact ⟨Tryd.underlying49, rfl, i0, hi, hz0, hz1, hz2⟩
end Go.Proofs.YtniniophoocalaaDoor

/- Values of one cell each in a row of the call's own. Over any program. -/





namespace Go.Proofs.YtniniophoocalaaDoor

open Go.RowKit

def OwnV {α : Type} (f : α → Value) (e : TypeId) (w : World) (l : List α) (v : Value) (w' : World) : Prop := ∃ n, w'.ownsRow w.heap.size e 1 v n (l.map f)
section

variable {α : Type} {f : α → Value} {e : TypeId} {w w0 w1 w2 : World} {l : List α} {v : Value}
theorem OwnV.nil (f : α → Value) (e : TypeId) (w w' : World) : OwnV f e w [] (.slice none 0 0) w' := ⟨0, World.ownsRow_nil _ _ _ _⟩
theorem OwnV.below (h : OwnV f e w l v w1) (hb : Below w1.heap.size w1 w2) : OwnV f e w l v w2 := h.elim fun _ h => ⟨_, own_below h hb⟩
theorem OwnV.base (hb : w0.heap.size ≤ w.heap.size) (h : OwnV f e w l v w1) : OwnV f e w0 l v w1 := h.elim fun _ h => ⟨_, own_base hb h⟩
end

end Go.Proofs.YtniniophoocalaaDoor

/- x & (2^w - 1) of a number with a sign. -/



namespace Go.Proofs.YtniniophoocalaaDoor

theorem i64_mask (n : Int) (w : Nat) (hw : w ≤ 62) : bits .and .i64 n (((2 ^ w - 1 : Nat) : Nat) : Int) = n % ((2 ^ w : Nat) : Int) := by
  have hW : 2 ^ w ≤ 2 ^ 62 := Nat.pow_le_pow_right (by omega) hw
  have hp : 0 < 2 ^ w := Nat.two_pow_pos w
  have h31 : (BitVec.ofInt 64 ((2 ^ w - 1 : Nat) : Int)).toNat = 2 ^ w - 1 := by
    rw [BitVec.ofInt_natCast, BitVec.toNat_ofNat]
    exact Nat.mod_eq_of_lt (by omega)
  have key : (BitVec.ofInt 64 n &&& BitVec.ofInt 64 ((2 ^ w - 1 : Nat) : Int)).toNat = (n % ((2 ^ 64 : Nat) : Int)).toNat % 2 ^ w := by
    rw [BitVec.toNat_and, BitVec.toNat_ofInt, h31, Nat.and_two_pow_sub_one_eq_mod]
  have hdvd : ((2 ^ w : Nat) : Int) ∣ ((2 ^ 64 : Nat) : Int) := Int.natCast_dvd_natCast.2 (Nat.pow_dvd_pow 2 (by omega))
  have e1 : (((n % ((2 ^ 64 : Nat) : Int)).toNat % 2 ^ w : Nat) : Int) = n % ((2 ^ w : Nat) : Int) := by
    rw [Int.natCast_emod, Int.toNat_of_nonneg (Int.emod_nonneg _ (by decide)), Int.emod_emod_of_dvd _ hdvd]
  show IntKind.i64.wrap ((BitVec.ofInt 64 n &&& BitVec.ofInt 64 ((2 ^ w - 1 : Nat) : Int)).toNat : Nat) = _
  rw [key, e1, IntKind.wrap_i64]
  have h1 := Int.emod_nonneg n (show ((2 ^ w : Nat) : Int) ≠ 0 by omega)
  have h2 := Int.emod_lt_of_pos n (show (0 : Int) < ((2 ^ w : Nat) : Int) by omega)
  omega
end Go.Proofs.YtniniophoocalaaDoor

/- Operations on numbers in a region that draws: what each yields; slices of one number. Over any program. -/





namespace Go.Proofs.YtniniophoocalaaDoor

open Go.RowKit

def Fact.vals {α : Type} (f : α → Value) (l : List α) : Fact := ⟨IsV f l, fun _ _ _ h hb => h.below hb⟩
section

variable {P : Program} {o : Oper} {ρ : Operand → Value} {w : World} {R : Value → World → Prop}
end
theorem wpList_slicedL {P : Program} {w : World} {ops : Array Oper} {rest : List Oper} {o : Oper} {a : Act} {Q : Exit → Act → World → Prop} (hgd : o.guard = none) (t : TypeId) (x y : Operand) (ho : o.op = .slice t x (some y) none none)
    (v : Value) (hrun : (Instr.sliceAt t (a.eval x) (some (a.eval y)) none none).run P w = .ok v w) (h : wpList P ops Q rest (a.put o.dst v) w) : wpList P ops Q (o :: rest) a w := by
  refine wpList_plain hgd fun K hK => ?_
  unfold Oper.wp execOp
  simp only [ho, Option.map_some, Option.map_none, hrun, Sem.run_bind, Sem.run_pure, Result.andThen_ok]
  exact hK _ _ h
end Go.Proofs.YtniniophoocalaaDoor

/- Slices of values of several cells each (structs): f tells a value's cells, m how many. Over any program. -/



namespace Go.Proofs.YtniniophoocalaaDoor

open Go.RowKit

theorem flat_at {α : Type} {f : α → List Value} {m : Nat} (hf : ∀ x, (f x).length = m) : ∀ (l : List α) (k : Nat) (hk : k < l.length) (i : Nat), i < m → (l.flatMap f)[k * m + i]? = (f l[k])[i]?
  | [], _, hk, _, _ => absurd hk (Nat.not_lt_zero _)
  | x :: l, 0, _, i, hi => by
    rw [List.flatMap_cons, Nat.zero_mul, Nat.zero_add, List.getElem?_append_left (by rw [hf]; exact hi)]
    rfl
  | x :: l, k + 1, hk, i, hi => by
    rw [List.flatMap_cons, Nat.succ_mul, List.getElem?_append_right (by rw [hf]; omega), hf, show k * m + m + i - m = k * m + i by omega]
    exact flat_at hf l k (by simpa using hk) i hi
theorem flat_take {α : Type} {f : α → List Value} {m : Nat} (hf : ∀ x, (f x).length = m) : ∀ (l : List α) (k : Nat), (l.take k).flatMap f = (l.flatMap f).take (k * m)
  | [], k => by simp
  | x :: l, 0 => by simp
  | x :: l, k + 1 => by
    rw [List.take_succ_cons, List.flatMap_cons, List.flatMap_cons, flat_take hf l k, Nat.succ_mul, List.take_append, hf, show k * m + m - m = k * m by omega, List.take_of_length_le (l := f x) (by rw [hf]; omega)]
theorem flat_len {α : Type} {f : α → List Value} {m : Nat} (hf : ∀ x, (f x).length = m) : ∀ l : List α, (l.flatMap f).length = l.length * m
  | [] => by simp
  | x :: l => by rw [List.flatMap_cons, List.length_append, hf, flat_len hf l, List.length_cons, Nat.succ_mul, Nat.add_comm]
/-- The slice v holds l, each of whose values takes up the cells f. -/
def IsR {α : Type} (f : α → List Value) (l : List α) (v : Value) (w : World) : Prop := ∃ A c, v = .slice A l.length c ∧ (A = none → l.length = 0) ∧ l.length ≤ c ∧ c ≤ maxLen ∧ Lies w A (l.flatMap f)
section

variable {α : Type} {f : α → List Value} {l : List α} {v : Value} {w w' : World} {A : Option Addr} {n c m : Nat}
theorem IsR.below (h : IsR f l v w) (hb : Below w.heap.size w w') : IsR f l v w' := by
  obtain ⟨A, c, h1, h2, h3, h4, h5⟩ := h
  exact ⟨A, c, h1, h2, h3, h4, h5.below hb⟩
theorem IsR.parts (h : IsR f l (.slice A n c) w) : l.length = n ∧ (A = none → n = 0) ∧ n ≤ c ∧ c ≤ maxLen ∧ Lies w A (l.flatMap f) := by
  obtain ⟨A', c', h1, h2, h3, h4, h5⟩ := h
  injection h1 with e1 e2 e3
  subst e1 e2 e3
  exact ⟨rfl, h2, h3, h4, h5⟩
theorem IsR.shape (h : IsR f l v w) : ∃ A n c, v = .slice A n c := by
  obtain ⟨A', c', h1, _⟩ := h
  exact ⟨_, _, _, h1⟩
theorem IsR.at (h : IsR f l (.slice A n c) w) (hf : ∀ x, (f x).length = m) (hm : 0 < m) {k : Nat} (hk : k < l.length) : ∃ ad, A = some ad ∧ ad.block < w.heap.size ∧ ∀ i, i < m → w.cell? (ad.add (k * m + i)) = (f l[k])[i]? := by
  obtain ⟨_, _, _, _, h5⟩ := h.parts
  have hne : l.flatMap f ≠ [] := by
    intro h0
    have h1 := flat_at hf l k hk 0 hm
    rw [h0, List.getElem?_eq_getElem (l := f l[k]) (by rw [hf]; exact hm)] at h1
    cases h1
  rcases h5 with h5 | ⟨ad, hA, hlt, hc⟩
  · exact absurd h5 hne
  · refine ⟨ad, hA, hlt, fun i hi => ?_⟩
    have h1 := flat_at hf l k hk i hi
    rw [List.getElem?_eq_getElem (l := f l[k]) (by rw [hf]; exact hi)] at h1 ⊢
    exact hc _ _ h1
/-- The first k of it, by x[:k]. -/
theorem IsR.take (h : IsR f l (.slice A n c) w) (hf : ∀ x, (f x).length = m) {k : Nat} (hk : k ≤ n) : IsR f (l.take k) (.slice A k c) w := by
  obtain ⟨h1, h2, h3, h4, h5⟩ := h.parts
  have hl : (l.take k).length = k := by rw [List.length_take]; omega
  exact ⟨A, c, by rw [hl], fun h => by have := h2 h; omega, by rw [hl]; omega, h4, by rw [flat_take hf]; exact h5.take _⟩
end

section

variable {P : Program} {o : Oper} {ρ : Operand → Value} {w : World} {R : Value → World → Prop}
/-- x[k] of a slice whose values take up m cells each: the place. -/
theorem gives_index_wide {t e : TypeId} {m : Nat} (ht : P.underlying t = some (.slice e)) (hs : ∀ W, (sizeOf e).run P W = .ok m W) {x y : Operand} {ad : Addr} {n c k : Nat} (ho : o.op = .indexAddr t x y) (hx : ρ x = .slice (some ad) n c) (hy : ρ y = .int .i64 (k : Int)) (hk : k < n)
    (hR : R (.pointer (some (ad.add (k * m)))) w) : Gives P o ρ w R := by
  refine gives_of (v := .pointer (some (ad.add (k * m)))) (w' := w) ?_ hR
  have h0 : (0 : Int) ≤ (k : Int) := by omega
  have h1 : (k : Int) < (n : Int) := by omega
  simp [execOp, ho, hx, hy, go_sem, ht, hs, h0, h1]
/-- A load of a whole value of several cells, from wherever they lie. -/
theorem gives_load_wide {t : TypeId} {x : Operand} {ad : Addr} {cs : List Value} {d : TypeDesc} (ho : o.op = .load t x) (hx : ρ x = .pointer (some ad)) (hu : P.underlying t = some d) (hd : (match (generalizing := false) d with | .struct _ | .array _ _ => true | _ => false) = true)
    (hs : ∀ W, (sizeOf t).run P W = .ok cs.length W) (hc : ∀ j v, cs[j]? = some v → w.cell? (ad.add j) = some v) (hR : R (.agg cs.toArray) w) : Gives P o ρ w R := by
  refine gives_of (v := .agg cs.toArray) (w' := w) ?_ hR
  have ha : (isAgg t).run P w = .ok true w := by
    unfold isAgg
    rw [Sem.run_bind, run_underlying hu]
    cases d <;> first | rfl | cases hd
  have hl : (loadVar t ad).run P w = .ok (.agg cs.toArray) w := by
    simp [loadVar, ha, hs, run_loadCells_list w ad cs hc]
  simp [execOp, ho, hx, Instr.loadAt, Instr.sureAddr, hl]
/-- p.f: the place of a field, where p is known. -/
theorem gives_field {t : TypeId} {x : Operand} {ad ad' : Addr} {f : Nat} (ho : o.op = .fieldAddr t x f) (hx : ρ x = .pointer (some ad)) (hrun : ∀ W, (Instr.fieldAt t (.pointer (some ad)) f).run P W = .ok (.pointer (some ad')) W)
    (hR : R (.pointer (some ad')) w) : Gives P o ρ w R := by
  refine gives_of (v := .pointer (some ad')) (w' := w) ?_ hR
  simp [execOp, ho, hx, hrun]
end

end Go.Proofs.YtniniophoocalaaDoor

/- Rows of the call's own whose values take up m cells each: append. Over any program. -/





namespace Go.Proofs.YtniniophoocalaaDoor

open Go.RowKit

/-- The facts on an element's type that appends ask: m cells, so many bytes. -/
structure ElemW (P : Program) (t e : TypeId) (bytes m : Nat) (z : Value) : Prop where
  under : P.underlying t = some (.slice e)
  cells : z.cells.size = m
  pos : 0 < m
  info : ∃ (i : TypeInfo), P.info? e = some i ∧ i.zero = some z ∧ i.size = m ∧ i.bytes = bytes
section

variable {P : Program} (w : World)
theorem runW_append_lies (base : Nat) (t ty e : TypeId) (i : TypeInfo) (z : Value) (size bytes : Nat) (ht : P.underlying t = some (.slice e)) (hi : P.info? e = some i) (hz : i.zero = some z)
    (hsize : i.size = size) (hby : i.bytes = bytes) (hzs : z.cells.size = size) (hsz : 0 < size)
    (v : Value) (n : Nat) (xs : List Value) (hown : w.ownsRow base e size v n xs) (A : Option Addr) (m c : Nat) (hA : A = none → m = 0) (news : List Value) (hm : news.length = m * size) (hr : Lies w A news) (h1 : ∀ u ∈ news, u.oneCell' = true)
    (h63 : n + m ≤ maxLen) (hbytes : (n + m) * bytes ≤ 140737488355328) (hbase : base ≤ w.heap.size) :
    ∃ v' w', (Builtin.append_ #[t, t] ty #[v, .slice A m c]).run P w = .ok v' w' ∧ w'.ownsRow base e size v' (n + m) (xs ++ news) ∧ w.grownBy w' v.ownBlock ∧
      (v'.ownBlock = v.ownBlock ∨ v'.ownBlock = some w.heap.size) := by
  rcases A with _ | ad
  · have hm0 := hA rfl
    subst hm0
    have hn : news = [] := List.eq_nil_of_length_eq_zero (by rw [hm, Nat.zero_mul])
    subst hn
    refine ⟨v, w, ?_, by simpa using hown, World.grownBy.refl w _, .inl rfl⟩
    rcases hown.2 with ⟨rfl, rfl⟩ | ⟨g, cap, cur, rfl, _, _, hnc, _⟩
    · simp [Builtin.append_, run_underlying ht, sizeOf, typeInfo, hi, Builtin.lenOf, Builtin.firstCells]
    · simp [Builtin.append_, run_underlying ht, sizeOf, typeInfo, hi, Builtin.lenOf, Builtin.firstCells, hnc, storeCells]
  · have hcells : ∀ j u, news[j]? = some u → w.cell? (ad.add j) = some u := by
      intro j u hu
      rcases hr with hr | ⟨ad', hA, _, hc⟩
      · rw [hr] at hu; simp at hu
      · injection hA with hA; subst hA; exact hc j u hu
    obtain ⟨v', w', hrun, h2, h3, _, h5⟩ := run_append_own_at (P := P) w base t ty e i z size bytes ht hi hz hsize hby hzs hsz v n xs hown ad m c news hm hcells h1 h63 hbytes hbase
    exact ⟨v', w', hrun, h2, h3, h5⟩
theorem wpListW_append {ops : Array Oper} {rest : List Oper} {o : Oper} {a : Act} {Q : Exit → Act → World → Prop} (hgd : o.guard = none) (s x : Operand) (t : TypeId)
    (ho : o.op = .call { callee := .builtin .append, args := #[s, x], argTypes := #[t, t] })
    (base : Nat) (e : TypeId) (i : TypeInfo) (z : Value) (size bytes : Nat) (ht : P.underlying t = some (.slice e)) (hi : P.info? e = some i) (hz : i.zero = some z)
    (hsize : i.size = size) (hby : i.bytes = bytes) (hzs : z.cells.size = size) (hsz : 0 < size)
    (v : Value) (n : Nat) (xs : List Value) (hs : a.eval s = v) (hown : w.ownsRow base e size v n xs) (A : Option Addr) (m c : Nat) (hx : a.eval x = .slice A m c) (hA : A = none → m = 0)
    (news : List Value) (hm : news.length = m * size) (hr : Lies w A news) (h1 : ∀ u ∈ news, u.oneCell' = true)
    (h63 : n + m ≤ maxLen) (hbytes : (n + m) * bytes ≤ 140737488355328) (hbase : base ≤ w.heap.size)
    (h : ∀ v' w', w'.ownsRow base e size v' (n + m) (xs ++ news) → w.grownBy w' v.ownBlock → (v'.ownBlock = v.ownBlock ∨ v'.ownBlock = some w.heap.size) → wpList P ops Q rest (a.put o.dst v') w') : wpList P ops Q (o :: rest) a w := by
  refine wpList_plain hgd fun K hK => ?_
  obtain ⟨v', w', hrun, h2, h3, h4⟩ := runW_append_lies (P := P) w base t o.type e i z size bytes ht hi hz hsize hby hzs hsz v n xs hown A m c hA news hm hr h1 h63 hbytes hbase
  unfold Oper.wp execOp
  simp only [ho, resolve, invoke, builtin, Sem.run_bind, Sem.run_pure, Result.andThen_ok, List.map_toArray, List.map_cons, List.map_nil, hs, hx, hrun]
  exact hK _ _ (h v' w' h2 h3 h4)
end
theorem ownW_lt {w : World} {base size n : Nat} {e : TypeId} {v : Value} {xs : List Value} (h : w.ownsRow base e size v n xs) {g : Nat} (hg : v.ownBlock = some g) : base ≤ g ∧ g < w.heap.size := by
  rcases h.2 with ⟨rfl, _⟩ | ⟨g', cap, cur, rfl, hb, hc, _⟩
  · simp [Value.ownBlock] at hg
  · simp [Value.ownBlock] at hg
    subst hg
    exact ⟨hb, (Array.getElem?_eq_some_iff.1 hc).1⟩
theorem belowW_append {w0 w w' : World} {base size : Nat} {e : TypeId} {v : Value} {n : Nat} {xs : List Value} (hb : Below base w0 w) (hown : w.ownsRow base e size v n xs) (hz : base ≤ w.heap.size) (hg : w.grownBy w' v.ownBlock) : Below base w0 w' :=
  hb.grown hg hz fun _ hk => (ownW_lt hown hk).1
theorem ownW_alloc {w : World} {base size n : Nat} {e : TypeId} {v : Value} {xs : List Value} (h : w.ownsRow base e size v n xs) (o : Obj) : (w.alloc o).ownsRow base e size v n xs :=
  own_below h ((Below.refl _ _).alloc (Nat.le_refl _) o)
theorem cells_new (w : World) (cs : List Value) (t : TypeId) : Lies (w.alloc (.cells cs.toArray t)) (some ⟨w.heap.size, 0, none⟩) cs := by
  have h : Row (w.alloc (.cells cs.toArray t)) w.heap.size t cs := heap_alloc_new w _
  simpa using h.lies 0
/-- append of one value of m cells, at a call of the walk. -/
theorem wpList_pushW {P : Program} {W : World} {ops : Array Oper} {rest : List Oper} {o : Oper} {a : Act} {Q : Exit → Act → World → Prop} {t e : TypeId} {bytes m : Nat} {z : Value} (E : ElemW P t e bytes m z)
    (hgd : o.guard = none) (s x : Operand) (ho : o.op = .call { callee := .builtin .append, args := #[s, x], argTypes := #[t, t] })
    (base : Nat) (v : Value) (n : Nat) (xs cs : List Value) (w w0 : World) (hs : a.eval s = v) (hx : a.eval x = .slice (some ⟨w.heap.size, 0, none⟩) 1 1) (hW : W = w.alloc (.cells cs.toArray e)) (hm : cs.length = m)
    (hu : ∀ u ∈ cs, u.oneCell' = true) (hown : w.ownsRow base e m v n xs) (hb : Below base w0 w) (hbase : base ≤ w.heap.size) (hn : n ≤ 1000000000) (hby : bytes ≤ 100)
    (h : ∀ v' w', w'.ownsRow base e m v' (n + 1) (xs ++ cs) → Below base w0 w' → w.grownBy w' v.ownBlock → (v'.ownBlock = v.ownBlock ∨ v'.ownBlock = some (w.heap.size + 1)) → wpList P ops Q rest (a.put o.dst v') w') : wpList P ops Q (o :: rest) a W := by
  obtain ⟨i, h1, h2, h3, h4⟩ := E.info
  subst hW
  have hle : (n + 1) * bytes ≤ (n + 1) * 100 := Nat.mul_le_mul_left _ hby
  refine wpListW_append _ hgd s x t ho base e i z m bytes E.under h1 h2 h3 h4 E.cells E.pos v n xs hs (ownW_alloc hown _) _ _ _ hx (by simp) cs (by rw [hm, Nat.one_mul]) (cells_new w cs e) hu (by unfold maxLen; omega) (by omega) (by simp; omega) ?_
  intro v' w' hown' hg hq
  refine h v' w' hown' (belowW_append (hb.alloc hbase _) (ownW_alloc hown _) (by simp; omega) hg) ⟨hg.os, hg.tape, hg.output, Nat.le_trans (by simp) hg.size, fun k hk hne => (hg.block k (by simp; omega) hne).trans (Below.heap_alloc w _ k hk)⟩ (by simpa using hq)
/-- The same, where the new block's number stands as g. -/
theorem wpList_pushG {P : Program} {W : World} {ops : Array Oper} {rest : List Oper} {o : Oper} {a : Act} {Q : Exit → Act → World → Prop} {t e : TypeId} {bytes m : Nat} {z : Value} (E : ElemW P t e bytes m z)
    (hgd : o.guard = none) (s x : Operand) (ho : o.op = .call { callee := .builtin .append, args := #[s, x], argTypes := #[t, t] })
    (base : Nat) (v : Value) (n : Nat) (xs cs : List Value) (w w0 : World) (g : Nat) (hgs : g = w.heap.size) (hs : a.eval s = v) (hx : a.eval x = .slice (some ⟨g, 0, none⟩) 1 1) (hW : W = w.alloc (.cells cs.toArray e)) (hm : cs.length = m)
    (hu : ∀ u ∈ cs, u.oneCell' = true) (hown : w.ownsRow base e m v n xs) (hb : Below base w0 w) (hbase : base ≤ w.heap.size) (hn : n ≤ 1000000000) (hby : bytes ≤ 100)
    (h : ∀ v' w', w'.ownsRow base e m v' (n + 1) (xs ++ cs) → Below base w0 w' → w.grownBy w' v.ownBlock → (v'.ownBlock = v.ownBlock ∨ v'.ownBlock = some (w.heap.size + 1)) → wpList P ops Q rest (a.put o.dst v') w') : wpList P ops Q (o :: rest) a W := by
  subst hgs
  exact wpList_pushW E hgd s x ho base v n xs cs w w0 hs hx hW hm hu hown hb hbase hn hby h
/-- append of what lies somewhere, at a call of the walk. -/
theorem wpList_joinW {P : Program} {w : World} {ops : Array Oper} {rest : List Oper} {o : Oper} {a : Act} {Q : Exit → Act → World → Prop} {t e : TypeId} {bytes size : Nat} {z : Value} (E : ElemW P t e bytes size z)
    (hgd : o.guard = none) (s x : Operand) (ho : o.op = .call { callee := .builtin .append, args := #[s, x], argTypes := #[t, t] })
    (base : Nat) (v : Value) (n : Nat) (xs : List Value) (A : Option Addr) (m c : Nat) (news : List Value) (w0 : World) (hs : a.eval s = v) (hx : a.eval x = .slice A m c)
    (hA : A = none → m = 0) (hm : news.length = m * size) (hr : Lies w A news) (h1 : ∀ u ∈ news, u.oneCell' = true)
    (hown : w.ownsRow base e size v n xs) (hb : Below base w0 w) (hbase : base ≤ w.heap.size) (hn : n + m ≤ 1000000000) (hby : bytes ≤ 100)
    (h : ∀ v' w', w'.ownsRow base e size v' (n + m) (xs ++ news) → Below base w0 w' → w.grownBy w' v.ownBlock → (v'.ownBlock = v.ownBlock ∨ v'.ownBlock = some w.heap.size) → wpList P ops Q rest (a.put o.dst v') w') : wpList P ops Q (o :: rest) a w := by
  obtain ⟨i, h2, h3, h4, h5⟩ := E.info
  have hle : (n + m) * bytes ≤ (n + m) * 100 := Nat.mul_le_mul_left _ hby
  refine wpListW_append _ hgd s x t ho base e i z size bytes E.under h2 h3 h4 h5 E.cells E.pos v n xs hs hown A m c hx hA news hm hr h1 (by unfold maxLen; omega) (by omega) hbase ?_
  intro v' w' hown' hg hq
  exact h v' w' hown' (belowW_append hb hown hbase hg) hg hq
section

variable {α : Type} {f : α → List Value} {l : List α} {v : Value} {w w' : World} {m n : Nat}
/-- What the call owns holds so many values. -/
theorem isR_own {base : Nat} {e : TypeId} (hf : ∀ x, (f x).length = m) (hm : 0 < m) (h : w.ownsRow base e m v n (l.flatMap f)) : IsR f l v w := by
  have hl : l.length = n := by
    have h1 := h.1
    rw [flat_len hf] at h1
    exact Nat.eq_of_mul_eq_mul_right hm h1
  rcases h.2 with ⟨rfl, rfl⟩ | ⟨g, cap, cur, rfl, hb, hg, hnc, hcm, hcs, ht⟩
  · obtain rfl := List.eq_nil_of_length_eq_zero hl
    exact ⟨none, 0, rfl, by simp, by simp, by unfold maxLen; omega, Lies.nil⟩
  · exact ⟨_, cap, by rw [hl], by simp, by omega, hcm, .inr ⟨_, rfl, (Array.getElem?_eq_some_iff.1 hg).1, h.cells (g := g) rfl⟩⟩
theorem isR_nil (f : α → List Value) (w : World) : IsR f [] (.slice none 0 0) w := ⟨none, 0, rfl, by simp, by simp, by unfold maxLen; omega, Lies.nil⟩
theorem ownW_made (w : World) (e : TypeId) (m : Nat) : (w.alloc (.cells #[] e)).ownsRow w.heap.size e m (.slice (some ⟨w.heap.size, 0, none⟩) 0 0) 0 [] :=
  ⟨by simp, .inr ⟨w.heap.size, 0, #[], rfl, Nat.le_refl _, heap_alloc_new w _, Nat.le_refl _, by unfold maxLen; omega, by simp, by simp⟩⟩
theorem flat_snoc (l : List α) (x : α) : (l ++ [x]).flatMap f = l.flatMap f ++ f x := by simp
end
end Go.Proofs.YtniniophoocalaaDoor

/- Arrays by value: a block that is made, loaded and stored whole. Over any program. -/





namespace Go.Proofs.YtniniophoocalaaDoor

open Go.RowKit

/-- Cells that are all the same. (A name of its own: the walk's simp writes List.replicate out.) -/
def zeroRow (n : Nat) (z : Value) : List Value := List.replicate n z
theorem zeroRow_len (n : Nat) (z : Value) : (zeroRow n z).length = n := by simp [zeroRow]
/-- The facts on an array type of n elements of one cell. -/
structure ArrT (P : Program) (t e : TypeId) (n : Nat) (z : Value) : Prop where
  under : P.underlying t = some (.array n e)
  info : (P.info? t).map (fun i => (i.zero, i.size)) = some (some (.agg (zeroRow n z).toArray), n)
theorem ArrT.size_ {P : Program} {t e : TypeId} {n : Nat} {z : Value} (E : ArrT P t e n z) : (P.info? t).map (·.size) = some n := (zero_of_info E.info).2

section

variable {P : Program} {w : World} {ops : Array Oper} {rest : List Oper} {o : Oper} {a : Act} {Q : Exit → Act → World → Prop} {t e : TypeId} {n : Nat} {z : Value}
end
end Go.Proofs.YtniniophoocalaaDoor

/- A region that draws, each operation shown once, over ANY relation of worlds (XRegion: over 'old memory as it was'): for a region that also writes: the relation says what each operation leaves as it was; a fact may speak of the values of what its operation waits for. -/



namespace Go.Proofs.YtniniophoocalaaDoor

open Go.RowKit

/-- A relation of worlds that regions may go by. -/
structure Later (R : World → World → Prop) : Prop where
  refl : ∀ w, R w w
  trans : ∀ {a b c}, R a b → R b c → R a c
  draw : ∀ w, R w { w with drawn := w.drawn + 1 }
/-- What is known of what an operation sees. -/
structure RCtxR (ops : Array Oper) (F : Nat → (Nat → Value) → World → Prop) (a0 : Act) (i : Nat) (ρ : Operand → Value) (vs : Nat → Value) (w : World) : Prop where
  const : ∀ v, ρ (.const v) = v
  func : ∀ f, ρ (.func f) = .func (.func f) #[] #[]
  glob : ∀ g, ρ (.global g) = .pointer (some ⟨g, 0, none⟩)
  new : ∀ d j, writer ops i d = some j → ρ (.tmp d) = vs j
  fact : ∀ j, rpred ops j i = true → F j vs w
  old : ∀ d v, writer ops i d = none → a0.eval (.tmp d) = v → ρ (.tmp d) = v
theorem writer_pred {ops : Array Oper} {i d j : Nat} (h : writer ops i d = some j) : rpred ops j i = true := by
  have h1 := List.find?_some h
  simp at h1
  exact h1.2
section

variable {P : Program} {ops : Array Oper} {Q : Exit → Act → World → Prop} {R : World → World → Prop}
end
/-- What is known of a value, and stays known; 'deps': the operations whose values it speaks of besides. -/
structure FactR (R : World → World → Prop) where
  holds : (Nat → Value) → Value → World → Prop
  deps : List Nat
  stays : ∀ vs v w w', holds vs v w → R w w' → holds vs v w'
  local_ : ∀ vs vs' v w, (∀ k ∈ deps, vs k = vs' k) → holds vs v w → holds vs' v w
def FactR.any {R : World → World → Prop} : FactR R := ⟨fun _ _ _ => True, [], fun _ _ _ _ _ _ => trivial, fun _ _ _ _ _ _ => trivial⟩
def FactR.is {R : World → World → Prop} (u : Value) : FactR R := ⟨fun _ v _ => v = u, [], fun _ _ _ _ h _ => h, fun _ _ _ _ _ h => h⟩
/-- Of the value alone, and the world. -/
def FactR.of {R : World → World → Prop} (H : Value → World → Prop) (h : ∀ v w w', H v w → R w w' → H v w') : FactR R := ⟨fun _ v w => H v w, [], fun _ v w w' a b => h v w w' a b, fun _ _ _ _ _ h => h⟩
def factsR {R : World → World → Prop} (L : List (FactR R)) (i : Nat) (vs : Nat → Value) (w : World) : Prop := (L.getD i FactR.any).holds vs (vs i) w
theorem RCtxR.holds {R : World → World → Prop} {ops : Array Oper} {L : List (FactR R)} {a0 : Act} {i : Nat} {ρ : Operand → Value} {vs : Nat → Value} {w : World} (H : RCtxR ops (factsR L) a0 i ρ vs w) (d j : Nat) (h : writer ops i d = some j) : (L.getD j FactR.any).holds vs (ρ (.tmp d)) w := by
  rw [H.new d j h]
  exact H.fact j (writer_pred h)
end Go.Proofs.YtniniophoocalaaDoor

/- Rows of structs made whole (make), copied (copy), stored into at an index; a struct's block laid and stored in a region that draws. Over any program. -/











namespace Go.Proofs.YtniniophoocalaaDoor

open Go.RowKit

/-- A struct stored into a row. -/
theorem wpList_storeW {P : Program} {w : World} {ops : Array Oper} {rest : List Oper} {o : Oper} {a : Act} {Q : Exit → Act → World → Prop} (hgd : o.guard = none) (t : TypeId) (x y : Operand) (ho : o.op = .store t x y)
    (g off : Nat) (t' : TypeId) (cur cs new : List Value) (hnew : cur.take off ++ cs ++ cur.drop (off + cs.length) = new) (hx : a.eval x = .pointer (some ⟨g, off, none⟩)) (hy : a.eval y = .agg cs.toArray) (hr : Row w g t' cur) (hi : (P.info? t).map (·.size) = some cs.length)
    (hfit : off + cs.length ≤ cur.length) (h1 : ∀ u ∈ cs, u.oneCell' = true) (w0 : World) (B : Nat) (hb : Below B w0 w) (hB : B ≤ g)
    (h : ∀ w', Row w' g t' new → Below B w0 w' → (∀ k ty l, k ≠ g → Row w k ty l → Row w' k ty l) → wpList P ops Q rest (a.put o.dst undef) w') : wpList P ops Q (o :: rest) a w := by
  subst hnew
  have hst := run_storeCells_at P g off t' cs 0 cur.toArray w hr (by simpa using hfit) h1
  have hrun : (storeVar t ⟨g, off, none⟩ (.agg cs.toArray)).run P w = .ok () (w.setRow g (cur.take off ++ cs ++ cur.drop (off + cs.length)).toArray) := by
    cases hq : P.info? t with
    | none => simp [hq] at hi
    | some i =>
      have hs : cs.length = i.size := by simp [hq] at hi; omega
      have hst2 : (storeCells ⟨g, off, none⟩ cs).run P w = .ok () (w.setRow g (cur.take off ++ cs ++ cur.drop (off + cs.length)).toArray) := by simpa using hst
      simp [storeVar, sizeOf, typeInfo, hq, Value.cells, hs]
      rw [← hs]
      simpa using hst2
  refine wpList_plain hgd fun K hK => ?_
  unfold Oper.wp execOp
  simp only [ho, hx, hy, Instr.storeAt, Instr.sureAddr, Sem.run_bind, Sem.run_pure, Result.andThen_ok, hrun]
  refine hK _ _ (h _ (setRow_heap w g cur.toArray _ t' (0, 0) hr) (below_setRow hb hB _) ?_)
  intro k ty l hk hrk
  exact (setRow_other w g k _ hk).trans hrk
section

variable {P : Program} {o : Oper} {ρ : Operand → Value} {w : World} {R : Value → World → Prop}
end
theorem rowAll_set {w : World} {g : Nat} {t : TypeId} {old cs : List Value} (h : Row w g t old) : Row (w.setRow g cs.toArray) g t cs := setRow_heap w g old.toArray cs.toArray t (0, 0) h
theorem rowAll_far {w : World} {g k : Nat} {t : TypeId} {l : List Value} {cs : Array Value} (hk : k ≠ g) (h : Row w k t l) : Row (w.setRow g cs) k t l := (setRow_other w g k cs hk).trans h
/-- A row made later lasts where block g alone changes. -/
theorem own_past {w w' : World} {base s n g : Nat} {e : TypeId} {v : Value} {xs : List Value} (h : w.ownsRow base e s v n xs) (hg : w.grownBy w' (some g)) (hlt : g < base) : w'.ownsRow base e s v n xs := by
  refine h.kept hg ?_
  rcases h.2 with ⟨rfl, _⟩ | ⟨g2, cap2, cur2, rfl, hge, _⟩
  · exact .inl rfl
  · refine .inr ?_
    simp only [Value.ownBlock, ne_eq, Option.some.injEq]
    omega
theorem grown_set (w : World) (g i : Nat) (v : Value) : w.grownBy (w.setCell ⟨g, i, none⟩ v) (some g) :=
  ⟨rfl, rfl, rfl, by rw [World.size_setCell]; exact Nat.le_refl _, fun k _ hne => Below.heap_setCell w _ v k (fun h => hne (by rw [h]))⟩
theorem isR_row {α : Type} {f : α → List Value} {l : List α} {w : World} {g : Nat} {t : TypeId} {m : Nat} (h : Row w g t (l.flatMap f)) (hl : l.length = m) (hm : m ≤ 1000000) : IsR f l (.slice (some ⟨g, 0, none⟩) m m) w := by
  refine ⟨some ⟨g, 0, none⟩, m, by rw [hl], fun h => by (cases h), by omega, by unfold maxLen; omega, ?_⟩
  have := h.lies 0
  rwa [List.drop_zero] at this
theorem flat_drop {α : Type} {f : α → List Value} {m : Nat} (hf : ∀ x, (f x).length = m) : ∀ (l : List α) (k : Nat), (l.drop k).flatMap f = (l.flatMap f).drop (k * m)
  | [], k => by simp
  | x :: l, 0 => by simp
  | x :: l, k + 1 => by
    rw [List.drop_succ_cons, List.flatMap_cons, flat_drop hf l k, Nat.succ_mul, List.drop_append, hf, show k * m + m - m = k * m by omega, List.drop_of_length_le (l := f x) (by rw [hf]; omega), List.nil_append]
theorem ElemW.size_ {P : Program} {t e : TypeId} {bytes m : Nat} {z : Value} (E : ElemW P t e bytes m z) (w : World) : (sizeOf e).run P w = .ok m w := by
  obtain ⟨i, h1, _, h3, _⟩ := E.info
  simp [sizeOf, typeInfo, h1, h3]
/-- x[k:] of a slice of structs, as one equation. -/
theorem fromR_named {P : Program} {α : Type} {f : α → List Value} {w : World} {t e : TypeId} {bytes m : Nat} {z : Value} (E : ElemW P t e bytes m z) (hf : ∀ x, (f x).length = m) {A : Option Addr} {n c k : Nat} {l : List α} (hk : k ≤ n) (hI : IsR f l (.slice A n c) w) :
    ∃ v, (∀ W, (Instr.sliceAt t (.slice A n c) (some (.int .i64 (k : Int))) none none).run P W = .ok v W) ∧ IsR f (l.drop k) v w := by
  obtain ⟨hxs, hA, hnc, hcm, hl⟩ := hI.parts
  have ht := E.under
  have he : P.elem t = e := by simp [Program.elem, ht]
  refine ⟨.slice (if c = k then A else A.map (·.add (k * m))) (n - k) (c - k), fun W => ?_, if c = k then A else A.map (·.add (k * m)), c - k, ?_, ?_, ?_, by omega, ?_⟩
  · rw [run_sliceAt_slice W t _ _ _ _ (by rw [he]; exact ht), run_slice_l W t A n c (by rw [he]; exact ht) .i64 (k : Int) (by omega) (by omega), he, E.size_]
    simp [sliced]
  · rw [List.length_drop, hxs]
  · intro hB
    have : A = none := by
      split at hB
      · exact hB
      · cases A with
        | none => rfl
        | some ad => simp at hB
    have := hA this
    rw [List.length_drop, hxs]
    omega
  · rw [List.length_drop, hxs]; omega
  · rw [flat_drop hf]
    have hp := E.pos
    have h1 := hl.drop (k := k * m) (cap := c * m) (by rw [flat_len hf, hxs]; exact Nat.mul_le_mul_right _ hnc)
    by_cases hc : c = k
    · subst hc; simpa using h1
    · rw [if_neg (fun h => hc (Nat.eq_of_mul_eq_mul_right hp h))] at h1
      rw [if_neg hc]; exact h1
/-- Old memory as it was; whatever block holds just these cells holds them on, and a block of their type stays one: for a region that lays a block and stores them. -/
def Keep (B : Nat) (T : TypeId) (cs : List Value) (w w' : World) : Prop := Below B w w' ∧ (∀ h, Row w h T cs → Row w' h T cs) ∧ (∀ h old, Row w h T old → old.length = cs.length → ∃ old', old'.length = cs.length ∧ Row w' h T old')
theorem Keep.of {B : Nat} {T : TypeId} {cs : List Value} {w w' : World} (hB : B ≤ w.heap.size) (h : Below w.heap.size w w') : Keep B T cs w w' :=
  ⟨h.mono hB, fun _ hr => hr.below h hr.lt, fun _ old hr hl => ⟨old, hl, hr.below h hr.lt⟩⟩
theorem Keep.alloc {B : Nat} {T : TypeId} {cs : List Value} {w : World} (hB : B ≤ w.heap.size) (o : Obj) : Keep B T cs w (w.alloc o) := Keep.of hB ((Below.refl _ _).alloc (Nat.le_refl _) _)
theorem Keep.store {B : Nat} {T : TypeId} {cs old : List Value} {w : World} {g : Nat} (hB : B ≤ g) (hr : Row w g T old) : Keep B T cs w (w.setRow g cs.toArray) :=
  ⟨below_setRow (Below.refl _ _) hB _, fun k h => if hk : k = g then by subst hk; exact rowAll_set hr else rowAll_far hk h,
    fun k o h hl => if hk : k = g then by subst hk; exact ⟨cs, rfl, rowAll_set hr⟩ else ⟨o, hl, rowAll_far hk h⟩⟩
end Go.Proofs.YtniniophoocalaaDoor

/- Runs of bytes (layer 5), as plain mathematics: parts of rows of bytes, laid down and taken. -/

namespace Go.Proofs.YtniniophoocalaaDoor

/-- So many bytes out of parts, and what stands behind. -/
def ytakes : Nat → Nat → List UInt8 → Option (List UInt8 × List UInt8)
  | _, 0, l => some ([], l)
  | 0, _ + 1, _ => none
  | _ + 1, _ + 1, [] => none
  | f + 1, m + 1, c :: l =>
    if c.toNat < 128 then
      match l with
      | [] => none
      | x :: r => if m + 1 < c.toNat + 3 then none else (ytakes f (m + 1 - (c.toNat + 3)) r).map fun p => (List.replicate (c.toNat + 3) x ++ p.1, p.2)
    else if l.length < 256 - c.toNat then none else if m + 1 < 256 - c.toNat then none else (ytakes f (m + 1 - (256 - c.toNat)) (l.drop (256 - c.toNat))).map fun p => (l.take (256 - c.toNat) ++ p.1, p.2)
theorem ytakes_cons (f m : Nat) (c : UInt8) (l : List UInt8) : ytakes (f + 1) (m + 1) (c :: l) =
    if c.toNat < 128 then
      match l with
      | [] => none
      | x :: r => if m + 1 < c.toNat + 3 then none else (ytakes f (m + 1 - (c.toNat + 3)) r).map fun p => (List.replicate (c.toNat + 3) x ++ p.1, p.2)
    else if l.length < 256 - c.toNat then none else if m + 1 < 256 - c.toNat then none else (ytakes f (m + 1 - (256 - c.toNat)) (l.drop (256 - c.toNat))).map fun p => (l.take (256 - c.toNat) ++ p.1, p.2) := rfl
theorem ytakes_more : ∀ (f g m : Nat) (l : List UInt8), l.length ≤ f → l.length ≤ g → ytakes f m l = ytakes g m l
  | 0, 0, _, _, _, _ => rfl
  | _, _, 0, _, _, _ => by simp [ytakes]
  | 0, g + 1, m + 1, l, h, _ => by obtain rfl : l = [] := List.eq_nil_of_length_eq_zero (by omega); rfl
  | f + 1, 0, m + 1, l, _, h => by obtain rfl : l = [] := List.eq_nil_of_length_eq_zero (by omega); rfl
  | f + 1, g + 1, m + 1, [], _, _ => rfl
  | f + 1, g + 1, m + 1, c :: l, h, h' => by
    have hc := c.toNat_lt
    simp only [List.length_cons] at h h'
    rw [ytakes_cons, ytakes_cons]
    split
    · cases l with
      | nil => rfl
      | cons x r => simp only [List.length_cons] at h h'; simp only []; rw [ytakes_more f g _ r (by omega) (by omega)]
    · rw [ytakes_more f g _ (l.drop (256 - c.toNat)) (by rw [List.length_drop]; omega) (by rw [List.length_drop]; omega)]
def ytake (m : Nat) (l : List UInt8) : Option (List UInt8 × List UInt8) := ytakes l.length m l
theorem ytake_zero (l : List UInt8) : ytake 0 l = some ([], l) := by unfold ytake; cases l.length <;> rfl
theorem ytake_run {m : Nat} (h : 0 < m) {c : UInt8} (hc : c.toNat < 128) (x : UInt8) (r : List UInt8) :
    ytake m (c :: x :: r) = if m < c.toNat + 3 then none else (ytake (m - (c.toNat + 3)) r).map fun p => (List.replicate (c.toNat + 3) x ++ p.1, p.2) := by
  obtain ⟨k, rfl⟩ : ∃ k, m = k + 1 := ⟨m - 1, by omega⟩
  unfold ytake
  rw [List.length_cons, ytakes_cons, if_pos hc]
  simp only []
  rw [ytakes_more _ r.length _ r (by simp) (Nat.le_refl _)]
end Go.Proofs.YtniniophoocalaaDoor

/- Contracts of layer 5's reference: same, Put, Take. -/





namespace Go.Proofs.YtniniophoocalaaDoor

open Go.RowKit

theorem drop_at {l : List UInt8} {a : Nat} (h : a < l.length) : l.drop a = l[a] :: l.drop (a + 1) := List.drop_eq_getElem_cons h
end Go.Proofs.YtniniophoocalaaDoor

/- The contract of layer 5's reference's Take. -/



namespace Go.Proofs.YtniniophoocalaaDoor

open Go.RowKit

/-- Two rows of bytes and an error that a call answers. -/
def RetBB (w : World) (p : List UInt8 × List UInt8 × Int) (e : Ending) (w' : World) : Prop :=
  ∃ u v, e = .returned (.tuple #[u, v, .int .i64 p.2.2]) ∧ IsB p.1 u w' ∧ IsB p.2.1 v w' ∧ Below w.heap.size w w'
theorem RetBB.nil {w w' : World} (n : Int) (hb : Below w.heap.size w w') : RetBB w ([], [], n) (.returned (.tuple #[.slice none 0 0, .slice none 0 0, .int .i64 n])) w' := ⟨_, _, rfl, isB_nil _, isB_nil _, hb⟩
/-- Some parts are taken: what is still to come. -/
def YLeft (l : List UInt8) (M a : Nat) (m : List UInt8) : Prop :=
  (m.length ≤ M ∧ ytake M l = (ytake (M - m.length) (l.drop a)).map fun p => (m ++ p.1, p.2)) ∨ (M < m.length ∧ ytake M l = none)
theorem YLeft.run {l m : List UInt8} {M a c : Nat} (h : YLeft l M a m) (hm : m.length < M) (ha : a + 1 < l.length) (hc : c = l[a].toNat) (h128 : c < 128) : YLeft l M (a + 2) (m ++ List.replicate (c + 3) l[a + 1]) := by
  rcases h with ⟨_, h⟩ | ⟨h, _⟩
  · rw [drop_at (show a < l.length by omega), drop_at ha, ytake_run (by omega) (by omega), ← hc] at h
    by_cases hM : M - m.length < c + 3
    · rw [if_pos hM] at h
      exact .inr ⟨by rw [List.length_append, List.length_replicate]; omega, h⟩
    · rw [if_neg hM] at h
      refine .inl ⟨by rw [List.length_append, List.length_replicate]; omega, ?_⟩
      rw [h, Option.map_map, List.length_append, List.length_replicate, show M - (m.length + (c + 3)) = M - m.length - (c + 3) by omega]
      congr 1
      funext p
      simp
  · omega
theorem YLeft.done {l m : List UInt8} {a : Nat} (h : YLeft l m.length a m) : ytake m.length l = some (m, l.drop a) := by
  rcases h with ⟨_, h⟩ | ⟨h, _⟩
  · rw [h, Nat.sub_self, ytake_zero]; simp
  · omega
theorem YLeft.over {l m : List UInt8} {M a : Nat} (h : YLeft l M a m) (hm : M < m.length) : ytake M l = none := by
  rcases h with ⟨h1, _⟩ | ⟨_, h⟩
  · omega
  · exact h

end Go.Proofs.YtniniophoocalaaDoor

/- Truths as bits of bytes, and these as runs of bytes (layer 6), as plain mathematics. -/





namespace Go.Proofs.YtniniophoocalaaDoor

def qn (l : List Bool) : List Nat := l.map Bool.toNat
end Go.Proofs.YtniniophoocalaaDoor

/- Contracts of layer 6's reference: Same, Count, Put, Take. -/









namespace Go.Proofs.YtniniophoocalaaDoor

open Go.RowKit

end Go.Proofs.YtniniophoocalaaDoor

/- The contract of layer 6's reference's Take. -/





namespace Go.Proofs.YtniniophoocalaaDoor

open Go.RowKit

/-- Truths, bytes and an error that a call answers. -/
def RetLB (w : World) (p : List Bool × List UInt8 × Int) (e : Ending) (w' : World) : Prop :=
  ∃ u v, e = .returned (.tuple #[u, v, .int .i64 p.2.2]) ∧ IsV Value.bool p.1 u w' ∧ IsB p.2.1 v w' ∧ Below w.heap.size w w'
theorem RetLB.nil {w w' : World} (n : Int) (hb : Below w.heap.size w w') : RetLB w ([], [], n) (.returned (.tuple #[.slice none 0 0, .slice none 0 0, .int .i64 n])) w' := ⟨_, _, rfl, isV_nil _ _, isB_nil _, hb⟩
/-- The same, the truths in a row of the call's own. -/
def RetLBO (w : World) (p : List Bool × List UInt8 × Int) (e : Ending) (w' : World) : Prop :=
  ∃ u v, e = .returned (.tuple #[u, v, .int .i64 p.2.2]) ∧ OwnV Value.bool 4 w p.1 u w' ∧ IsB p.2.1 v w' ∧ Below w.heap.size w w'
theorem RetLBO.nil {w w' : World} (n : Int) (hb : Below w.heap.size w w') : RetLBO w ([], [], n) (.returned (.tuple #[.slice none 0 0, .slice none 0 0, .int .i64 n])) w' := ⟨_, _, rfl, OwnV.nil _ _ _ _, isB_nil _, hb⟩
end Go.Proofs.YtniniophoocalaaDoor

/- Values of columns (layer 12), as plain mathematics. -/







namespace Go.Proofs.YtniniophoocalaaDoor

/-- A value: nothing, a number, a text. -/
structure CV where
  null : Bool
  n : Int
  s : ByteArray
def cv (v : CV) : Value := .agg #[.bool v.null, .int .i64 v.n, .string v.s]
def CV.inInt (v : CV) : Prop := -9223372036854775808 ≤ v.n ∧ v.n ≤ 9223372036854775807
/-- One text stands ahead of another. -/
def sless (a b : ByteArray) : Bool := Op.bytesLess a.toList b.toList
theorem sless_iff (a b : ByteArray) : sless a b = true ↔ a.data.toList < b.data.toList := by
  unfold sless
  rw [bytesLess_eq, ByteArray.toList_eq, ByteArray.toList_eq, decide_eq_true_iff]
theorem sless_not (a : ByteArray) : sless a a = false := by
  rw [← Bool.not_eq_true, sless_iff]
  exact List.lt_irrefl _
theorem sless_trans {a b c : ByteArray} (h1 : sless a b = true) (h2 : sless b c = true) : sless a c = true := by
  rw [sless_iff] at *
  exact List.lt_trans h1 h2
theorem bytes_ext {a b : ByteArray} (h : a.data.toList = b.data.toList) : a = b := by
  cases a; cases b
  congr 1
  exact Array.toList_inj.1 h
theorem sless_total {a b : ByteArray} (h : a ≠ b) : sless a b = true ∨ sless b a = true := by
  rw [sless_iff, sless_iff]
  by_cases h1 : a.data.toList < b.data.toList
  · exact .inl h1
  · refine .inr ?_
    have h2 : b.data.toList ≤ a.data.toList := List.not_lt.1 h1
    rcases List.le_iff_lt_or_eq.1 h2 with h3 | h3
    · exact h3
    · exact absurd (bytes_ext h3).symm h
theorem sless_asymm {a b : ByteArray} (h : sless a b = true) : sless b a = false := by
  rw [← Bool.not_eq_true]
  intro h2
  have := sless_trans h h2
  rw [sless_not] at this
  cases this
/-- How two values are compared. -/
def kcmp (a b : CV) : Int :=
  if a.null ≠ b.null then (if a.null = true then -1 else 1)
  else if a.n ≠ b.n then (if a.n < b.n then -1 else 1)
  else if a.s ≠ b.s then (if sless a.s b.s = true then -1 else 1)
  else 0
theorem kcmp_bd (a b : CV) : kcmp a b = -1 ∨ kcmp a b = 0 ∨ kcmp a b = 1 := by
  unfold kcmp
  split
  · split <;> simp
  · split
    · split <;> simp
    · split
      · split <;> simp
      · simp
theorem CV.ext' {a b : CV} (h1 : a.null = b.null) (h2 : a.n = b.n) (h3 : a.s = b.s) : a = b := by cases a; cases b; simp_all
theorem kcmp_self (a : CV) : kcmp a a = 0 := by unfold kcmp; simp
theorem kcmp_zero {a b : CV} : kcmp a b = 0 ↔ a = b := by
  constructor
  · intro h
    unfold kcmp at h
    split at h
    · split at h <;> simp at h
    · rename_i h1
      split at h
      · split at h <;> simp at h
      · rename_i h2
        split at h
        · split at h <;> simp at h
        · rename_i h3
          exact CV.ext' (Decidable.not_not.1 h1) (Decidable.not_not.1 h2) (Decidable.not_not.1 h3)
  · intro h; rw [h]; exact kcmp_self b
theorem kcmp_null {a b : CV} (h : a.null ≠ b.null) : kcmp a b = if a.null = true then -1 else 1 := by unfold kcmp; rw [if_pos h]
theorem kcmp_n {a b : CV} (h : a.null = b.null) (h2 : a.n ≠ b.n) : kcmp a b = if a.n < b.n then -1 else 1 := by unfold kcmp; rw [if_neg fun h3 => h3 h, if_pos h2]
theorem kcmp_s {a b : CV} (h : a.null = b.null) (h2 : a.n = b.n) (h3 : a.s ≠ b.s) : kcmp a b = if sless a.s b.s = true then -1 else 1 := by unfold kcmp; rw [if_neg fun h4 => h4 h, if_neg fun h4 => h4 h2, if_pos h3]
theorem kcmp_neg (a b : CV) : kcmp a b = -kcmp b a := by
  by_cases h1 : a.null = b.null
  · by_cases h2 : a.n = b.n
    · by_cases h3 : a.s = b.s
      · rw [CV.ext' h1 h2 h3, kcmp_self]; rfl
      · rw [kcmp_s h1 h2 h3, kcmp_s h1.symm h2.symm fun h => h3 h.symm]
        rcases sless_total h3 with h4 | h4
        · rw [if_pos h4, sless_asymm h4]; rfl
        · rw [if_pos h4, sless_asymm h4]; rfl
    · rw [kcmp_n h1 h2, kcmp_n h1.symm fun h => h2 h.symm]
      by_cases h4 : a.n < b.n
      · rw [if_pos h4, if_neg (by omega)]
      · rw [if_neg h4, if_pos (by omega)]; rfl
  · rw [kcmp_null h1, kcmp_null fun h => h1 h.symm]
    cases ha : a.null <;> cases hb : b.null <;> simp_all
theorem kcmp_trans {a b c : CV} (h1 : kcmp a b ≤ 0) (h2 : kcmp b c ≤ 0) : kcmp a c ≤ 0 := by
  by_cases e1 : a.null = b.null
  · by_cases e2 : b.null = c.null
    · by_cases f1 : a.n = b.n
      · by_cases f2 : b.n = c.n
        · by_cases g1 : a.s = b.s
          · rw [CV.ext' e1 f1 g1]; exact h2
          · by_cases g2 : b.s = c.s
            · rw [← CV.ext' e2 f2 g2]; exact h1
            · rw [kcmp_s e1 f1 g1] at h1
              rw [kcmp_s e2 f2 g2] at h2
              have k1 : sless a.s b.s = true := by
                by_cases h : sless a.s b.s = true
                · exact h
                · rw [if_neg h] at h1; omega
              have k2 : sless b.s c.s = true := by
                by_cases h : sless b.s c.s = true
                · exact h
                · rw [if_neg h] at h2; omega
              have k3 := sless_trans k1 k2
              have g3 : a.s ≠ c.s := fun h => by rw [h, sless_not] at k3; cases k3
              rw [kcmp_s (e1.trans e2) (f1.trans f2) g3, if_pos k3]
              omega
        · rw [kcmp_n e2 f2] at h2
          rw [kcmp_n (e1.trans e2) (by rw [f1]; exact f2), f1]
          exact h2
      · rw [kcmp_n e1 f1] at h1
        have k1 : a.n < b.n := by
          by_cases h : a.n < b.n
          · exact h
          · rw [if_neg h] at h1; omega
        by_cases f2 : b.n = c.n
        · rw [kcmp_n (e1.trans e2) (by omega), if_pos (by omega)]; omega
        · rw [kcmp_n e2 f2] at h2
          have k2 : b.n < c.n := by
            by_cases h : b.n < c.n
            · exact h
            · rw [if_neg h] at h2; omega
          rw [kcmp_n (e1.trans e2) (by omega), if_pos (by omega)]; omega
    · rw [kcmp_null e2] at h2
      rw [kcmp_null (by rw [e1]; exact e2), e1]
      exact h2
  · rw [kcmp_null e1] at h1
    have k1 : a.null = true := by
      by_cases h : a.null = true
      · exact h
      · rw [if_neg h] at h1; omega
    by_cases e2 : b.null = c.null
    · rw [kcmp_null (by rw [← e2]; exact e1), if_pos k1]; omega
    · rw [kcmp_null e2] at h2
      have k2 : b.null = true := by
        by_cases h : b.null = true
        · exact h
        · rw [if_neg h] at h2; omega
      exact absurd (k1.trans k2.symm) e1
end Go.Proofs.YtniniophoocalaaDoor

/- Contracts of layer 12's reference. -/







namespace Go.Proofs.YtniniophoocalaaDoor

open Go.RowKit

def kcells (v : CV) : List Value := [.bool v.null, .int .i64 v.n, .string v.s]
/-- A column: its name, its kind. -/
structure CC where
  s : ByteArray
  kind : Int
def ccells (x : CC) : List Value := [.string x.s, .int .i64 x.kind]
theorem kcmp_of (an bn : Bool) (ai bi : Int) (as_ bs : ByteArray) : kcmp ⟨an, ai, as_⟩ ⟨bn, bi, bs⟩ = if (!an == bn) = true then (if an = true then -1 else 1) else if (ai != bi) = true then (if decide (ai < bi) = true then -1 else 1) else if (!as_.toList == bs.toList) = true then (if Op.bytesLess as_.toList bs.toList = true then -1 else 1) else 0 := by
  by_cases g1 : an = bn
  · subst g1
    by_cases g2 : ai = bi
    · subst g2
      by_cases g3 : as_ = bs
      · subst g3; rw [kcmp_self]; simp
      · have h2 : ¬ as_.toList = bs.toList := by
          rw [ByteArray.toList_eq, ByteArray.toList_eq]
          exact fun h2 => g3 (bytes_ext h2)
        rw [kcmp_s (a := ⟨an, ai, as_⟩) (b := ⟨an, ai, bs⟩) rfl rfl g3]
        simp [h2, sless]
        rfl
    · rw [kcmp_n (a := ⟨an, ai, as_⟩) (b := ⟨an, bi, bs⟩) rfl g2]
      simp [g2]
  · rw [kcmp_null (a := ⟨an, ai, as_⟩) (b := ⟨bn, bi, bs⟩) g1]
    simp [g1]
set_option maxHeartbeats 1000000 in
set_option maxRecDepth 100000 in
theorem rcmp12_any (a b : CV) (w : World) : Calls Tryd.prog 33 #[cv a, cv b] w fun e w' => e = .returned (.int .i64 (kcmp a b)) ∧ Below w.heap.size w w' := by
  obtain ⟨an, ai, as_⟩ := a
  obtain ⟨bn, bi, bs⟩ := b
  have hA : Row ((w.alloc (.cells #[.bool an, .int .i64 ai, .string as_] 41)).alloc (.cells #[.bool bn, .int .i64 bi, .string bs] 41)) w.heap.size 41 [.bool an, .int .i64 ai, .string as_] := (show Row (w.alloc _) _ _ _ from heap_alloc_new w _).alloc _
  have hB : Row ((w.alloc (.cells #[.bool an, .int .i64 ai, .string as_] 41)).alloc (.cells #[.bool bn, .int .i64 bi, .string bs] 41)) (w.heap.size + 1) 41 [.bool bn, .int .i64 bi, .string bs] := by
    have h := heap_alloc_new (w.alloc (.cells #[.bool an, .int .i64 ai, .string as_] 41)) (.cells #[.bool bn, .int .i64 bi, .string bs] 41)
    rw [show (w.alloc (.cells #[.bool an, .int .i64 ai, .string as_] 41)).heap.size = w.heap.size + 1 by simp] at h
    exact h
  have hb : Below w.heap.size w ((w.alloc (.cells #[.bool an, .int .i64 ai, .string as_] 41)).alloc (.cells #[.bool bn, .int .i64 bi, .string bs] 41)) := ((Below.refl _ _).alloc (Nat.le_refl _) _).alloc (by simp) _
  have HBE := Lib.hid hb
  have a0 := hA.cell 0
  have a1 := hA.cell 1
  have a2 := hA.cell 2
  have b0 := hB.cell 0
  have b1 := hB.cell 1
  have b2 := hB.cell 2
  clear hA hB hb
  unfold cv
  cases h0 : (!an == bn)
  · cases h1 : (ai != bi)
    · cases h2 : (!as_.toList == bs.toList)
      · have HK := Lib.hid (kcmp_of an bn ai bi as_ bs)
        rw [h0, h1, h2] at HK
        go_enter Tryd.func33, Tryd.ntmps33
        go_wp2
        go_ret
        exact ⟨by rw [HK.out]; rfl, HBE.out⟩
      · cases h3 : Op.bytesLess as_.toList bs.toList
        · have HK := Lib.hid (kcmp_of an bn ai bi as_ bs)
          rw [h0, h1, h2, h3] at HK
          go_enter Tryd.func33, Tryd.ntmps33
          go_wp2
          go_ret
          exact ⟨by rw [HK.out]; rfl, HBE.out⟩
        · have HK := Lib.hid (kcmp_of an bn ai bi as_ bs)
          rw [h0, h1, h2, h3] at HK
          go_enter Tryd.func33, Tryd.ntmps33
          go_wp2
          go_ret
          exact ⟨by rw [HK.out]; rfl, HBE.out⟩
    · cases h3 : decide (ai < bi)
      · have HK := Lib.hid (kcmp_of an bn ai bi as_ bs)
        rw [h0, h1, h3] at HK
        go_enter Tryd.func33, Tryd.ntmps33
        go_wp2
        go_ret
        exact ⟨by rw [HK.out]; rfl, HBE.out⟩
      · have HK := Lib.hid (kcmp_of an bn ai bi as_ bs)
        rw [h0, h1, h3] at HK
        go_enter Tryd.func33, Tryd.ntmps33
        go_wp2
        go_ret
        exact ⟨by rw [HK.out]; rfl, HBE.out⟩
  · cases an
    · cases bn
      · simp at h0
      · have HK := Lib.hid (kcmp_of false true ai bi as_ bs)
        rw [h0] at HK
        clear h0
        go_enter Tryd.func33, Tryd.ntmps33
        go_wp2
        go_ret
        exact ⟨by rw [HK.out]; rfl, HBE.out⟩
    · cases bn
      · have HK := Lib.hid (kcmp_of true false ai bi as_ bs)
        rw [h0] at HK
        clear h0
        go_enter Tryd.func33, Tryd.ntmps33
        go_wp2
        go_ret
        exact ⟨by rw [HK.out]; rfl, HBE.out⟩
      · simp at h0
end Go.Proofs.YtniniophoocalaaDoor

/- Contracts of what the program's layer 12 calls of Go's library: strings.HasPrefix, strings.Compare, cmp.Compare at int. -/













namespace Go.Proofs.YtniniophoocalaaDoor

open Go.RowKit

set_option maxHeartbeats 1000000 in
theorem llite_prefix (s p : ByteArray) (w : World) : Calls Tryd.prog 64 #[.string s, .string p] w fun e w' => e = .returned (.bool (Lib.hasPrefix s.data.toList p.data.toList)) ∧ w = w' := by
  rw [← Lib.hasPrefix_of_take, ← Lib.size_eq, ← Lib.size_eq]
  go_enter Tryd.func64, Tryd.ntmps64
  go_wp2
  · rename_i h
    go_ret
    refine ⟨?_, rfl⟩
    show Ending.returned (Value.bool ((s.extract 0 p.size).toList == p.toList)) = _
    rw [Lib.extract_toList, Lib.toList_data]
    simp [h]
  · rename_i h
    go_ret
    refine ⟨?_, rfl⟩
    show Ending.returned (Value.bool false) = _
    simp [h]
theorem lprefix_any (s p : ByteArray) (w : World) : Calls Tryd.prog 59 #[.string s, .string p] w fun e w' => e = .returned (.bool (Lib.hasPrefix s.data.toList p.data.toList)) ∧ w = w' := by
  go_enter Tryd.func59, Tryd.ntmps59
  go_wp2_with (go_at_call 64; refine (llite_prefix _ _ _).mono ?_; rintro e w' ⟨rfl, rfl⟩)
  go_ret
  exact ⟨rfl, rfl⟩
set_option maxHeartbeats 1000000 in
theorem lcompareI_any (x y : Int) (w : World) : Calls Tryd.prog 60 #[.int .i64 x, .int .i64 y] w fun e w' => e = .returned (.int .i64 (Lib.compareInt x y)) ∧ w = w' := by
  go_enter Tryd.func60, Tryd.ntmps60
  go_wp2
  all_goals (go_ret; refine ⟨?_, rfl⟩; unfold Lib.compareInt; (repeat' split) <;> first | rfl | (exfalso; omega))
set_option maxHeartbeats 1000000 in
set_option maxRecDepth 100000 in
theorem lbytealg_any (a b : ByteArray) (w : World) : Calls Tryd.prog 66 #[.string a, .string b] w fun e w' => e = .returned (.int .i64 (Lib.compareBytes a.data.toList b.data.toList)) ∧ w = w' := by
  go_enter Tryd.func66, Tryd.ntmps66
  go_wp2
  rw [run_callFunc_extern Tryd.func67 (by kernel_rfl) (by kernel_rfl) (by kernel_rfl) (e := Extern.BytealgCompare.compare) (by kernel_rfl), Lib.run_compareString]
  simp only [Result.andThen]
  rw [Oper.upon_value]
  go_wp2
  go_ret
  exact ⟨rfl, rfl⟩
theorem lcompareS_any (a b : ByteArray) (w : World) : Calls Tryd.prog 61 #[.string a, .string b] w fun e w' => e = .returned (.int .i64 (Lib.compareBytes a.data.toList b.data.toList)) ∧ w = w' := by
  go_enter Tryd.func61, Tryd.ntmps61
  go_wp2_with (go_at_call 66; refine (lbytealg_any _ _ _).mono ?_; rintro e w' ⟨rfl, rfl⟩)
  go_ret
  exact ⟨rfl, rfl⟩
/-- strings.Compare's answer in the words of layer 12. -/
theorem compareBytes_lists : ∀ a b : List UInt8, Lib.compareBytes a b = if a = b then 0 else if a < b then -1 else 1
  | [], [] => by simp [Lib.compareBytes]
  | [], _ :: _ => by simp [Lib.compareBytes]
  | _ :: _, [] => by simp [Lib.compareBytes]
  | x :: a, y :: b => by
    have ih := compareBytes_lists a b
    unfold Lib.compareBytes
    rw [ih]
    by_cases h1 : x < y
    · rw [if_pos h1, if_neg (fun h => by injection h with h _; subst h; exact absurd h1 (UInt8.lt_irrefl x)), if_pos (List.cons_lt_cons_iff.2 (.inl h1))]
    · rw [if_neg h1]
      by_cases h2 : y < x
      · rw [if_pos h2, if_neg (fun h => by injection h with h _; subst h; exact absurd h2 (UInt8.lt_irrefl x)), if_neg]
        intro h
        rcases List.cons_lt_cons_iff.1 h with h | ⟨h, _⟩
        · exact h1 h
        · subst h; exact absurd h2 (UInt8.lt_irrefl x)
      · rw [if_neg h2]
        have hxy : x = y := by
          apply UInt8.le_antisymm
          · exact UInt8.not_lt.1 h2
          · exact UInt8.not_lt.1 h1
        subst hxy
        by_cases h3 : a = b
        · subst h3; simp
        · rw [if_neg h3, if_neg (fun h => h3 (List.cons.inj h).2)]
          by_cases h4 : a < b
          · rw [if_pos h4, if_pos (List.cons_lt_cons_iff.2 (.inr ⟨rfl, h4⟩))]
          · rw [if_neg h4, if_neg]
            intro h
            rcases List.cons_lt_cons_iff.1 h with h | ⟨_, h⟩
            · exact absurd h (UInt8.lt_irrefl x)
            · exact h4 h
theorem compareBytes_sless (a b : ByteArray) : Lib.compareBytes a.data.toList b.data.toList = if a = b then 0 else if sless a b = true then -1 else 1 := by
  rw [compareBytes_lists]
  by_cases h : a = b
  · subst h; simp
  · rw [if_neg h, if_neg (fun h2 => h (bytes_ext h2))]
    by_cases h2 : sless a b = true
    · rw [if_pos h2, if_pos ((sless_iff a b).1 h2)]
    · rw [if_neg h2, if_neg (fun h3 => h2 ((sless_iff a b).2 h3))]
end Go.Proofs.YtniniophoocalaaDoor
