/- Texts that the claims of this seat share, part 1: Bits Mem Region Ops Row Law Com Str Shelf Tab WPlain WLeaf WMost BPlain BGen. -/
import Derived.Laws.BitsAllLaws
import Derived.Laws.BitsLemmas
import Derived.WalkKit
import Derived.Below
import Derived.Laws.OwnMore
import Derived.Laws.BytesArg
import Derived.Laws.CopyOwn
import Derived.Maps.AppendAt
import Derived.Deep.Draws
import Derived.Deep.RegionLaw
import Derived.Orders
import Derived.StillTail
import Derived.Test.YtblpkmmhmdpkjaaGreatDoorRows
import Derived.WalkLawsBesides
import Derived.ProofKit
import Derived.OpenShut
import Derived.SizedLaws
import Derived.Carry
import Derived.ChangeSlices
import Derived.SevenTiedAt
import Derived.Outline
import Derived.Lib.Hide
import Derived.Handy
import Derived.Deep.QuietTactic
import Derived.BigQuiet
import Derived.StillTailTactics
import Derived.Deep.DeepMust
import Derived.Lib.SlBytesConst
import Derived.Laws.ResultCell
import Derived.Great.BuildSlice
import Derived.Shelf.Strconv.Itoa0
import Derived.Test.YtblpkmmhmdpkjaaGreatDoorProg
import Derived.LaidMore
import Derived.Laws.Rows
import Derived.MakeChecks
import Derived.LaidSub
import Derived.Lib.BitFns
import Derived.Lib.ItoaNum
/- Bit operations of the model on numbers in their range, as plain arithmetic. -/







namespace Go.Proofs.YtblpkmmhmdpkjaaGreatDoor

theorem u64_not (x : Int) (h0 : 0 ≤ x) (h1 : x < 18446744073709551616) : bits .xor .u64 IntKind.u64.max x = 18446744073709551615 - x := by
  obtain ⟨n, rfl⟩ := Int.eq_ofNat_of_zero_le h0
  have hm : IntKind.u64.max = ((18446744073709551615 : Nat) : Int) := by decide
  rw [hm, u64_xor_nat _ _ (by omega) (by omega)]
  have h : 18446744073709551615 ^^^ n = 18446744073709551615 - n := by
    have h3 : (BitVec.ofNat 64 n) ^^^ BitVec.allOnes 64 = ~~~ (BitVec.ofNat 64 n) := BitVec.xor_allOnes
    have h4 := congrArg BitVec.toNat h3
    rw [BitVec.toNat_xor, BitVec.toNat_not, BitVec.toNat_allOnes, BitVec.toNat_ofNat, Nat.mod_eq_of_lt (by omega), Nat.xor_comm] at h4
    simpa using h4
  rw [h]
  omega
theorem u64_or1 (x : Int) (h0 : 0 ≤ x) (h1 : x < 18446744073709551616) : bits .or .u64 x 1 = ((x.toNat ||| 1 : Nat) : Int) := by
  rw [u64_or x 1 h0 h1 (by omega) (by omega)]
  rfl
theorem u8_or128 (x : Int) (h0 : 0 ≤ x) (h1 : x < 256) : bits .or .u8 x 128 = x % 128 + 128 := by
  rw [u8_or x 128 h0 h1 (by omega) (by omega), show (128 : Int).toNat = 128 from rfl]
  have h : ∀ n : Fin 256, n.val ||| 128 = n.val % 128 + 128 := by decide +kernel
  have := h ⟨x.toNat, by omega⟩
  simp only at this
  omega
end Go.Proofs.YtblpkmmhmdpkjaaGreatDoor

/- Slices in memory: what lies at an address, and what becomes of it. Over any program. -/

















namespace Go.Proofs.YtblpkmmhmdpkjaaGreatDoor

open Go.RowKit

theorem add_block (a : Addr) (n : Nat) : (a.add n).block = a.block := by unfold Addr.add; split <;> rfl
theorem add_add (a : Addr) (i j : Nat) : (a.add i).add j = a.add (i + j) := by
  unfold Addr.add
  rcases Nat.eq_zero_or_pos i with rfl | hi
  · simp
  · rcases Nat.eq_zero_or_pos j with rfl | hj
    · simp
    · rw [if_neg (by omega), if_neg (by omega), if_neg (by omega)]; simp [Nat.add_assoc]

/-- The cells xs lie at A, in a block that is there. (Where there are none, A is whatever.) -/
def Lies (w : World) (A : Option Addr) (xs : List Value) : Prop :=
  xs = [] ∨ ∃ ad, A = some ad ∧ ad.block < w.heap.size ∧ ∀ j u, xs[j]? = some u → w.cell? (ad.add j) = some u

section

variable {w w' : World} {A : Option Addr} {xs : List Value}
theorem Lies.nil : Lies w A [] := .inl rfl
theorem Lies.below (h : Lies w A xs) (hb : Below w.heap.size w w') : Lies w' A xs := by
  rcases h with h | ⟨ad, hA, hlt, hc⟩
  · exact .inl h
  · exact .inr ⟨ad, hA, Nat.lt_of_lt_of_le hlt hb.size, fun j u hu => (hb.cell (by rw [add_block]; exact hlt)).trans (hc j u hu)⟩
theorem Lies.drewN (h : Lies w A xs) (n : Nat) : Lies (w.drewN n) A xs := h
theorem Lies.drew (h : Lies w A xs) : Lies w.drew A xs := h
theorem Lies.take (h : Lies w A xs) (k : Nat) : Lies w A (xs.take k) := by
  rcases h with h | ⟨ad, hA, hlt, hc⟩
  · exact .inl (by simp [h])
  · exact .inr ⟨ad, hA, hlt, fun j u hu => hc j u (by rw [List.getElem?_take] at hu; split at hu <;> simp_all)⟩
theorem Lies.drop (h : Lies w A xs) {k cap : Nat} (hc : xs.length ≤ cap) : Lies w (if cap = k then A else A.map (·.add k)) (xs.drop k) := by
  rcases h with h | ⟨ad, hA, hlt, hcell⟩
  · exact .inl (by simp [h])
  · by_cases hk : xs.length ≤ k
    · exact .inl (List.drop_of_length_le hk)
    · refine .inr ⟨ad.add k, ?_, by rw [add_block]; exact hlt, fun j u hu => ?_⟩
      · rw [if_neg (by omega), hA]; rfl
      · rw [add_add]; exact hcell _ u (by rw [← hu, List.getElem?_drop])
theorem Lies.cell (h : Lies w A xs) {k : Nat} (hk : k < xs.length) : ∃ ad, A = some ad ∧ ad.block < w.heap.size ∧ w.cell? (ad.add k) = some xs[k] := by
  rcases h with h | ⟨ad, hA, hlt, hc⟩
  · subst h; simp at hk
  · exact ⟨ad, hA, hlt, hc k _ (List.getElem?_eq_getElem hk)⟩
theorem Lies.own {base : Nat} {e : TypeId} {n c : Nat} (h : w.ownsRow base e 1 (.slice A n c) n xs) : Lies w A xs := by
  rcases h.2 with ⟨_, h0⟩ | ⟨g, cap, cur, hv, _, hg, _⟩
  · exact .inl (List.eq_nil_of_length_eq_zero (by have := h.1; omega))
  · injection hv with hA _ _
    subst hA
    exact .inr ⟨_, rfl, (Array.getElem?_eq_some_iff.1 hg).1, h.cells (g := g) rfl⟩
/-- What is owned is a slice of so many, with no less room. -/
theorem own_shape {base : Nat} {e : TypeId} {n : Nat} {v : Value} (h : w.ownsRow base e 1 v n xs) :
    ∃ B c, v = .slice B n c ∧ n ≤ c ∧ c ≤ maxLen ∧ (∀ g, v.ownBlock = some g → base ≤ g) ∧ Lies w B xs ∧ xs.length = n := by
  have hl : xs.length = n := by simpa using h.1
  rcases h.2 with ⟨rfl, rfl⟩ | ⟨g, cap, cur, rfl, hb, hg, hnc, hcm, hcs, ht⟩
  · exact ⟨none, 0, rfl, Nat.le_refl _, by unfold maxLen; omega, by simp [Value.ownBlock], .inl (List.eq_nil_of_length_eq_zero hl), hl⟩
  · exact ⟨_, cap, rfl, hnc, hcm, by simp [Value.ownBlock]; exact hb, Lies.own h, hl⟩
end

/-- A byte, and bytes, as cells. -/
def bv (b : UInt8) : Value := .int .u8 (b.toNat : Int)
/-- A number that is not below 0, as the program has it. -/
def uv (x : Nat) : Value := .int .u64 (x : Int)
theorem bv_one (l : List UInt8) : ∀ u ∈ l.map bv, u.oneCell' = true := by
  intro u hu
  obtain ⟨b, _, rfl⟩ := List.mem_map.1 hu
  rfl

section

variable {P : Program} (w : World)
/-- Bytes as a text. -/
theorem run_text (src e dst : TypeId) (hs : P.underlying src = some (.slice e)) (he : P.underlying e = some (.int .u8)) (hd : P.underlying dst = some .string)
    (A : Option Addr) (n c : Nat) (l : List UInt8) (hn : l.length = n) (h : Lies w A (l.map bv)) :
    (convert src dst (.slice A n c)).run P w = .ok (.string ⟨l.toArray⟩) w := by
  subst hn
  rcases A with _ | ad
  · have hl : l = [] := by
      rcases h with h | ⟨ad, h, _⟩
      · simpa using h
      · cases h
    subst hl
    rw [run_convert_bytes_nil w src e hs he _ _ dst hd]
    rfl
  · have hc : (loadCells ad l.length).run P w = .ok ((l.map fun b => (b.toNat : Int)).map (Value.int .u8)).toArray w := by
      have := run_loadCells_list (P := P) w ad (l.map bv) (fun j u hu => by
        rcases h with h | ⟨ad', hA, _, hc⟩
        · rw [h] at hu; simp at hu
        · injection hA with hA; subst hA; exact hc j u hu)
      have he : (l.map fun b => (b.toNat : Int)).map (Value.int .u8) = l.map bv := by rw [List.map_map]; rfl
      rw [he]
      simpa using this
    rw [run_convert_bytes_string w src dst e _ _ c hs he hd, run_bytesToString w _ _ c _ hc, foldl_push_bytes]
    have he : (l.map fun b => (b.toNat : Int)).map (fun n => UInt8.ofNat n.toNat) = l := by
      rw [List.map_map]
      conv => rhs; rw [← List.map_id l]
      exact List.map_congr_left fun b _ => by simp
    rw [he]
    simp [ByteArray.empty, ByteArray.emptyWithCapacity]
    rfl

theorem run_append_lies (base : Nat) (t ty e : TypeId) (i : TypeInfo) (z : Value) (bytes : Nat) (ht : P.underlying t = some (.slice e)) (hi : P.info? e = some i) (hz : i.zero = some z)
    (hsize : i.size = 1) (hby : i.bytes = bytes) (hzs : z.cells.size = 1)
    (v : Value) (n : Nat) (xs : List Value) (hown : w.ownsRow base e 1 v n xs) (A : Option Addr) (m c : Nat) (hA : A = none → m = 0) (news : List Value) (hm : news.length = m) (hr : Lies w A news) (h1 : ∀ u ∈ news, u.oneCell' = true)
    (h63 : n + m ≤ maxLen) (hbytes : (n + m) * bytes ≤ 140737488355328) (hbase : base ≤ w.heap.size) :
    ∃ v' w', (Builtin.append_ #[t, t] ty #[v, .slice A m c]).run P w = .ok v' w' ∧ w'.ownsRow base e 1 v' (n + m) (xs ++ news) ∧ w.grownBy w' v.ownBlock ∧
      (v'.ownBlock = v.ownBlock ∨ v'.ownBlock = some w.heap.size) := by
  rcases A with _ | ad
  · have hm0 := hA rfl
    subst hm0
    have hn : news = [] := List.eq_nil_of_length_eq_zero hm
    subst hn
    refine ⟨v, w, ?_, by simpa using hown, World.grownBy.refl w _, .inl rfl⟩
    rcases hown.2 with ⟨rfl, rfl⟩ | ⟨g, cap, cur, rfl, _, _, hnc, _⟩
    · simp [Builtin.append_, run_underlying ht, sizeOf, typeInfo, hi, Builtin.lenOf, Builtin.firstCells]
    · simp [Builtin.append_, run_underlying ht, sizeOf, typeInfo, hi, Builtin.lenOf, Builtin.firstCells, hnc, storeCells]
  · have hcells : ∀ j u, news[j]? = some u → w.cell? (ad.add j) = some u := by
      intro j u hu
      rcases hr with hr | ⟨ad', hA, _, hc⟩
      · rw [hr] at hu; simp at hu
      · injection hA with hA; subst hA; exact hc j u hu
    obtain ⟨v', w', hrun, h2, h3, _, h5⟩ := run_append_own_at (P := P) w base t ty e i z 1 bytes ht hi hz hsize hby hzs (by omega) v n xs hown ad m c news (by omega) hcells h1 h63 hbytes hbase
    exact ⟨v', w', hrun, h2, h3, h5⟩

/-- append, at a call of the walk. -/
theorem wpList_append_lies {ops : Array Oper} {rest : List Oper} {o : Oper} {a : Act} {Q : Exit → Act → World → Prop} (hgd : o.guard = none) (s x : Operand) (t : TypeId)
    (ho : o.op = .call { callee := .builtin .append, args := #[s, x], argTypes := #[t, t] })
    (base : Nat) (e : TypeId) (i : TypeInfo) (z : Value) (bytes : Nat) (ht : P.underlying t = some (.slice e)) (hi : P.info? e = some i) (hz : i.zero = some z)
    (hsize : i.size = 1) (hby : i.bytes = bytes) (hzs : z.cells.size = 1)
    (v : Value) (n : Nat) (xs : List Value) (hs : a.eval s = v) (hown : w.ownsRow base e 1 v n xs) (A : Option Addr) (m c : Nat) (hx : a.eval x = .slice A m c) (hA : A = none → m = 0)
    (news : List Value) (hm : news.length = m) (hr : Lies w A news) (h1 : ∀ u ∈ news, u.oneCell' = true)
    (h63 : n + m ≤ maxLen) (hbytes : (n + m) * bytes ≤ 140737488355328) (hbase : base ≤ w.heap.size)
    (h : ∀ v' w', w'.ownsRow base e 1 v' (n + m) (xs ++ news) → w.grownBy w' v.ownBlock → (v'.ownBlock = v.ownBlock ∨ v'.ownBlock = some w.heap.size) → wpList P ops Q rest (a.put o.dst v') w') : wpList P ops Q (o :: rest) a w := by
  refine wpList_plain hgd fun K hK => ?_
  obtain ⟨v', w', hrun, h2, h3, h4⟩ := run_append_lies (P := P) w base t o.type e i z bytes ht hi hz hsize hby hzs v n xs hown A m c hA news hm hr h1 h63 hbytes hbase
  unfold Oper.wp execOp
  simp only [ho, resolve, invoke, builtin, Sem.run_bind, Sem.run_pure, Result.andThen_ok, List.map_toArray, List.map_cons, List.map_nil, hs, hx, hrun]
  exact hK _ _ (h v' w' h2 h3 h4)
end

/-- Behind an append to what the call owns, old memory is as it was. -/
theorem below_append {w0 w w' : World} {base : Nat} {e : TypeId} {v : Value} {n : Nat} {xs : List Value} (hb : Below base w0 w) (hown : w.ownsRow base e 1 v n xs) (hz : base ≤ w.heap.size) (hg : w.grownBy w' v.ownBlock) : Below base w0 w' :=
  hb.grown hg hz fun _ hk => (hown.lt _ hk).1

theorem cell_new (w : World) (u : Value) (t : TypeId) : Lies (w.alloc (.cells #[u] t)) (some ⟨w.heap.size, 0, none⟩) [u] := by
  refine .inr ⟨_, rfl, by simp, fun j v hv => ?_⟩
  match j, hv with
  | 0, hv => simp at hv; subst hv; simp [Addr.add]

/-- The facts on an element's type that appends ask: one cell, so many bytes. -/
structure Elem (P : Program) (t e : TypeId) (bytes : Nat) (z : Value) : Prop where
  under : P.underlying t = some (.slice e)
  one : z.cells = #[z]
  info : ∃ (i : TypeInfo), P.info? e = some i ∧ i.zero = some z ∧ i.size = 1 ∧ i.bytes = bytes

/-- append of one value, at a call of the walk: the row that the call owns has one more; old memory is as it was. -/
theorem wpList_push {P : Program} {W : World} {ops : Array Oper} {rest : List Oper} {o : Oper} {a : Act} {Q : Exit → Act → World → Prop} {t e : TypeId} {bytes : Nat} {z : Value} (E : Elem P t e bytes z)
    (hgd : o.guard = none) (s x : Operand) (ho : o.op = .call { callee := .builtin .append, args := #[s, x], argTypes := #[t, t] })
    (base : Nat) (v : Value) (n : Nat) (xs : List Value) (u : Value) (w w0 : World) (hs : a.eval s = v) (hx : a.eval x = .slice (some ⟨w.heap.size, 0, none⟩) 1 1) (hW : W = w.alloc (.cells #[u] e))
    (hu : u.oneCell' = true) (hown : w.ownsRow base e 1 v n xs) (hb : Below base w0 w) (hbase : base ≤ w.heap.size) (hn : n ≤ 1000000000) (hby : bytes ≤ 100)
    (h : ∀ v' w', w'.ownsRow base e 1 v' (n + 1) (xs ++ [u]) → Below base w0 w' → w.grownBy w' v.ownBlock → (v'.ownBlock = v.ownBlock ∨ v'.ownBlock = some (w.heap.size + 1)) → wpList P ops Q rest (a.put o.dst v') w') : wpList P ops Q (o :: rest) a W := by
  obtain ⟨i, h1, h2, h3, h4⟩ := E.info
  have h5 : z.cells.size = 1 := by rw [E.one]; rfl
  subst hW
  have hle : (n + 1) * bytes ≤ (n + 1) * 100 := Nat.mul_le_mul_left _ hby
  refine wpList_append_lies _ hgd s x t ho base e i z bytes E.under h1 h2 h3 h4 h5 v n xs hs (hown.alloc _) _ _ _ hx (by simp) [u] rfl (cell_new w u e) (by simpa using hu) (by unfold maxLen; omega) (by omega) (by simp; omega) ?_
  intro v' w' hown' hg hq
  refine h v' w' hown' (below_append (hb.alloc hbase _) (hown.alloc _) (by simp; omega) hg) ⟨hg.os, hg.tape, hg.output, Nat.le_trans (by simp) hg.size, fun k hk hne => (hg.block k (by simp; omega) hne).trans (Below.heap_alloc w _ k hk)⟩ (by simpa using hq)

/-- append of what lies somewhere, at a call of the walk. -/
theorem wpList_join {P : Program} {w : World} {ops : Array Oper} {rest : List Oper} {o : Oper} {a : Act} {Q : Exit → Act → World → Prop} {t e : TypeId} {bytes : Nat} {z : Value} (E : Elem P t e bytes z)
    (hgd : o.guard = none) (s x : Operand) (ho : o.op = .call { callee := .builtin .append, args := #[s, x], argTypes := #[t, t] })
    (base : Nat) (v : Value) (n : Nat) (xs : List Value) (A : Option Addr) (m c : Nat) (news : List Value) (w0 : World) (hs : a.eval s = v) (hx : a.eval x = .slice A m c)
    (hA : A = none → m = 0) (hm : news.length = m) (hr : Lies w A news) (h1 : ∀ u ∈ news, u.oneCell' = true)
    (hown : w.ownsRow base e 1 v n xs) (hb : Below base w0 w) (hbase : base ≤ w.heap.size) (hn : n + m ≤ 1000000000) (hby : bytes ≤ 100)
    (h : ∀ v' w', w'.ownsRow base e 1 v' (n + m) (xs ++ news) → Below base w0 w' → w.grownBy w' v.ownBlock → (v'.ownBlock = v.ownBlock ∨ v'.ownBlock = some w.heap.size) → wpList P ops Q rest (a.put o.dst v') w') : wpList P ops Q (o :: rest) a w := by
  obtain ⟨i, h2, h3, h4, h5⟩ := E.info
  have h6 : z.cells.size = 1 := by rw [E.one]; rfl
  have hle : (n + m) * bytes ≤ (n + m) * 100 := Nat.mul_le_mul_left _ hby
  refine wpList_append_lies _ hgd s x t ho base e i z bytes E.under h2 h3 h4 h5 h6 v n xs hs hown A m c hx hA news hm hr h1 (by unfold maxLen; omega) (by omega) hbase ?_
  intro v' w' hown' hg hq
  exact h v' w' hown' (below_append hb hown hbase hg) hg hq

/-- Block g is just the cells cs, none of them frozen. -/
def Row (w : World) (g : Nat) (t : TypeId) (cs : List Value) : Prop := w.heap[g]? = some (.cells cs.toArray t (0, 0))
section

variable {w w' : World} {g : Nat} {t : TypeId} {cs : List Value}
theorem Row.lt (h : Row w g t cs) : g < w.heap.size := (Array.getElem?_eq_some_iff.1 h).1
theorem Row.cell (h : Row w g t cs) (i : Nat) : w.cell? ⟨g, i, none⟩ = cs[i]? := by rw [cell_of_row w g i cs.toArray t (0, 0) h]; simp
theorem Row.free (h : Row w g t cs) (i : Nat) : w.frozen? ⟨g, i, none⟩ = false := by unfold Row at h; simp [World.frozen?, h]
theorem Row.set_ (h : Row w g t cs) (i : Nat) (u : Value) : Row (w.setCell ⟨g, i, none⟩ u) g t (cs.set i u) := by
  unfold Row at h ⊢
  simp [World.setCell, Array.getElem?_modify, h]
theorem Row.far (h : Row w g t cs) {p : Addr} (hp : g ≠ p.block) (u : Value) : Row (w.setCell p u) g t cs := (Below.heap_setCell w p u g hp).trans h
theorem Row.below {B : Nat} (h : Row w g t cs) (hb : Below B w w') (hg : g < B) : Row w' g t cs := (hb.block g hg).trans h
theorem Row.drew (h : Row w g t cs) : Row w.drew g t cs := h
theorem Row.drewN (h : Row w g t cs) (n : Nat) : Row (w.drewN n) g t cs := h
theorem Row.alloc (h : Row w g t cs) (o : Obj) : Row (w.alloc o) g t cs := (Below.heap_alloc w o g h.lt).trans h
theorem Row.lies (h : Row w g t cs) (k : Nat) : Lies w (some ⟨g, k, none⟩) (cs.drop k) := by
  refine .inr ⟨_, rfl, h.lt, fun j u hu => ?_⟩
  rw [List.getElem?_drop] at hu
  have he : (⟨g, k, none⟩ : Addr).add j = ⟨g, k + j, none⟩ := by unfold Addr.add; split <;> simp_all
  rw [he, h.cell, hu]
end

/-- make, at a call of the walk. -/
theorem wpList_make {P : Program} {w : World} {ops : Array Oper} {rest : List Oper} {o : Oper} {a : Act} {Q : Exit → Act → World → Prop} {t e : TypeId} {bytes : Nat} {z : Value} (E : Elem P t e bytes z)
    (hgd : o.guard = none) (l c : Operand) (hop : o.op = Op.makeSlice t l c) (kl kc : IntKind) (L C : Int) (n : Nat) (w0 : World) (B : Nat)
    (hl : a.eval l = .int kl L) (hc : a.eval c = .int kc C) (hL : L = (n : Int)) (hC : C = (n : Int)) (hn : n ≤ 1000000000) (hby : bytes ≤ 100) (hb : Below B w0 w) (hB : B ≤ w.heap.size)
    (h : ∀ w', Row w' w.heap.size e (List.replicate n z) → Below B w0 w' → wpList P ops Q rest (a.put o.dst (.slice (some ⟨w.heap.size, 0, none⟩) n n)) w') :
    wpList P ops Q (o :: rest) a w := by
  obtain ⟨i, h1, h2, h3, h4⟩ := E.info
  refine wpList_plain hgd fun K hK => ?_
  have hle : bytes * n ≤ 100 * n := Nat.mul_le_mul_right _ hby
  have hbi : (i.bytes : Int) * (n : Int) ≤ 281474976710656 := by
    rw [h4, ← Int.natCast_mul]; omega
  have hrun := run_make (P := P) w t e i z E.under h1 h2 kl kc n n (by omega) (by omega) hbi (by omega)
  subst hL
  subst hC
  unfold Oper.wp
  simp only [execOp, hop, hl, hc, hrun, Result.andThen_ok, Sem.run_bind, Sem.run_pure]
  simp only [Int.toNat_natCast, h3, Nat.mul_one, E.one]
  refine hK _ _ (h _ ?_ (hb.alloc hB _))
  unfold Row
  rw [heap_alloc_new]
  congr 2
  rw [← Array.toList_inj]
  simp only [madeCells, Array.toList_map, Array.toList_range]
  have hz : ∀ x : Nat, (#[z] : Array Value)[x % (#[z] : Array Value).size]! = z := by
    intro x
    have : x % (#[z] : Array Value).size = 0 := Nat.mod_one x
    rw [this]
    rfl
  simp only [hz, List.map_const', List.length_range]

/-- copy of all that lies somewhere into a row of the call's own, at a call of the walk. -/
theorem wpList_copyRow {P : Program} {w : World} {ops : Array Oper} {rest : List Oper} {o : Oper} {a : Act} {Q : Exit → Act → World → Prop} {t e : TypeId} {bytes : Nat} {z : Value} (E : Elem P t e bytes z)
    (hgd : o.guard = none) (d s : Operand) (ho : o.op = .call { callee := .builtin .copy, args := #[d, s], argTypes := #[t, t] })
    (g off dLen dCap : Nat) (A : Option Addr) (m c : Nat) (cur src : List Value) (B : Nat) (w0 : World)
    (hd : a.eval d = .slice (some ⟨g, off, none⟩) dLen dCap) (hs : a.eval s = .slice A m c) (hr : Row w g e cur) (hm : src.length = m) (hl : Lies w A src) (h1 : ∀ u ∈ src, u.oneCell' = true)
    (hle : m ≤ dLen) (hfit : off + m ≤ cur.length) (hb : Below B w0 w) (hB : B ≤ g)
    (h : ∀ w', Row w' g e (cur.take off ++ (src ++ cur.drop (off + m))) → Below B w0 w' → wpList P ops Q rest (a.put o.dst (goInt m)) w') :
    wpList P ops Q (o :: rest) a w := by
  obtain ⟨i, h2, h3, h4, h5⟩ := E.info
  subst hm
  refine wpList_copy_splice hgd d s t t ho e E.under (by rw [h2]; simp [h4]) _ _ _ _ _ _ hd hs g off cur e hr src (Nat.min_eq_left hle).symm ?_ hfit h1 B w0 hb hB ?_
  · intro hp
    refine ⟨rfl, ?_⟩
    rcases hl with hl | ⟨ad, hA, _, hc⟩
    · rw [hl] at hp; simp at hp
    · exact ⟨ad, hA, hc⟩
  · intro w' hr' hb'
    exact h w' hr'.out hb'

/-- What a call answers that makes bytes anew. -/
def RetB (w : World) (l : List UInt8) (e : Ending) (w' : World) : Prop :=
  ∃ A c, e = .returned (.slice A l.length c) ∧ (A = none → l.length = 0) ∧ l.length ≤ c ∧ c ≤ maxLen ∧ Lies w' A (l.map bv) ∧ Below w.heap.size w w'

theorem ret_own {w0 w : World} {base : Nat} {e : TypeId} {v : Value} {n : Nat} {l : List UInt8} (hown : w.ownsRow base e 1 v n (l.map bv)) (hb : Below w0.heap.size w0 w) : RetB w0 l (.returned v) w := by
  obtain ⟨B, c, rfl, hnc, hcm, _, hl, hlen⟩ := own_shape hown
  rw [List.length_map] at hlen
  subst hlen
  refine ⟨B, c, rfl, ?_, hnc, hcm, hl, hb⟩
  intro hB
  subst hB
  rcases hl with hl | ⟨ad, h, _⟩
  · simpa using hl
  · cases h
end Go.Proofs.YtblpkmmhmdpkjaaGreatDoor

/- A region that draws its order, each of whose operations is shown once: what an operation yields is told by a fact that later worlds keep, so the order does not matter. Over any program. -/









namespace Go.Proofs.YtblpkmmhmdpkjaaGreatDoor

open Go.RowKit

def rdst (ops : Array Oper) (i : Nat) : Option Tmp := (ops[i]?).bind (·.dst)
/-- Operation i waits for operation j. -/
def rpred (ops : Array Oper) (j i : Nat) : Bool := ((ops[i]?).map fun o => o.after.toList.any fun e => Region.binds .any e && e.on == j).getD false

/-- The frame in which those operations of the first n that are marked have left their values. -/
def puts (ops : Array Oper) (m : Nat → Bool) (vs : Nat → Value) : Nat → Act → Act
  | 0, a => a
  | n + 1, a => if m n then (puts ops m vs n a).put (rdst ops n) (vs n) else puts ops m vs n a

/-- What is asked of the region's text: edges lead back; no two operations leave their values at one place; what an operation looks at is left by one that it waits for, or by one that waits for it. -/
def regionOk (ops : Array Oper) (size : Nat) : Bool :=
  (List.range ops.size).all fun i =>
    ((ops[i]?).map fun o =>
      (o.after.all fun e => !Region.binds .any e || decide (e.on < i)) &&
      (match o.op with | .select .. => false | _ => true) &&
      (match o.dst with | some d => decide (d < size) && (List.range ops.size).all (fun j => j == i || rdst ops j != some d) | none => true) &&
      ((o.looksAt ops).all fun d => (List.range ops.size).all fun j => j == i || rdst ops j != some d || rpred ops j i || rpred ops i j)).getD false

section

variable {P : Program} {ops : Array Oper} {Q : Exit → Act → World → Prop}

theorem puts_congr (m m' : Nat → Bool) (vs vs' : Nat → Value) (a : Act) : ∀ n, (∀ j, j < n → m j = m' j) → (∀ j, j < n → m j = true → vs j = vs' j) → puts ops m vs n a = puts ops m' vs' n a := by
  intro n
  induction n with
  | zero => intro _ _; rfl
  | succ n ih =>
    intro h1 h2
    rw [puts, puts, ih (fun j hj => h1 j (by omega)) (fun j hj => h2 j (by omega)), ← h1 n (by omega)]
    by_cases hm : m n = true
    · rw [if_pos hm, if_pos hm, h2 n (by omega) hm]
    · rw [if_neg hm, if_neg hm]

theorem puts_size (m : Nat → Bool) (vs : Nat → Value) (a : Act) : ∀ n, (puts ops m vs n a).tmps.size = a.tmps.size := by
  intro n
  induction n with
  | zero => rfl
  | succ n ih =>
    rw [puts]
    split
    · unfold Act.put; split <;> simp [ih]
    · exact ih

theorem puts_old (m : Nat → Bool) (vs : Nat → Value) (a : Act) (d : Tmp) : ∀ n, (∀ j, j < n → m j = true → rdst ops j ≠ some d) → (puts ops m vs n a).tmps[d]? = a.tmps[d]? := by
  intro n
  induction n with
  | zero => intro _; rfl
  | succ n ih =>
    intro h
    rw [puts]
    split
    · rename_i hm
      rw [← ih fun j hj => h j (by omega)]
      have hne := h n (by omega) hm
      cases hd : rdst ops n with
      | none => rfl
      | some e =>
        rw [hd] at hne
        exact Array.getElem?_setIfInBounds_ne (fun he => hne (by rw [he]))
    · exact ih fun j hj => h j (by omega)

theorem puts_new (m : Nat → Bool) (vs : Nat → Value) (a : Act) (d : Tmp) (i : Nat) (hd : rdst ops i = some d) (hm : m i = true) : ∀ n, i < n → (∀ j, j < n → j ≠ i → rdst ops j ≠ some d) →
    (puts ops m vs n a).tmps[d]? = (a.put (some d) (vs i)).tmps[d]? := by
  intro n
  induction n with
  | zero => intro h; omega
  | succ n ih =>
    intro hi hne
    rw [puts]
    by_cases hin : i = n
    · subst hin
      rw [if_pos hm, hd]
      simp only [Act.put, Array.getElem?_setIfInBounds_self, puts_size]
    · split
      · rw [← ih (by omega) fun j hj => hne j (by omega)]
        have hne' := hne n (by omega) (fun h => hin h.symm)
        cases hd' : rdst ops n with
        | none => rfl
        | some e =>
          rw [hd'] at hne'
          exact Array.getElem?_setIfInBounds_ne (fun he => hne' (by rw [he]))
      · exact ih (by omega) fun j hj => hne j (by omega)

theorem puts_set (m : Nat → Bool) (vs : Nat → Value) (a : Act) (i : Nat) (v : Value) (hm : m i = false) : ∀ n, i < n → (∀ j, j < n → j ≠ i → ∀ d, rdst ops i = some d → rdst ops j ≠ some d) →
    puts ops (fun j => j == i || m j) (fun j => if j = i then v else vs j) n a = (puts ops m vs n a).put (rdst ops i) v := by
  intro n
  induction n with
  | zero => intro h; omega
  | succ n ih =>
    intro hi hne
    show (if (n == i || m n) = true then (puts ops (fun j => j == i || m j) (fun j => if j = i then v else vs j) n a).put (rdst ops n) (if n = i then v else vs n) else puts ops (fun j => j == i || m j) (fun j => if j = i then v else vs j) n a) =
      (if m n = true then (puts ops m vs n a).put (rdst ops n) (vs n) else puts ops m vs n a).put (rdst ops i) v
    by_cases hin : n = i
    · have h0 : puts ops (fun j => j == i || m j) (fun j => if j = i then v else vs j) n a = puts ops m vs n a := by
        refine puts_congr _ _ _ _ a n (fun j hj => ?_) (fun j hj _ => ?_)
        · have : (j == i) = false := by simp; omega
          simp [this]
        · simp; omega
      rw [h0]
      subst hin
      rw [if_pos (by simp), if_pos rfl, if_neg (by simp [hm])]
    · have h1 : (n == i || m n) = m n := by
        have : (n == i) = false := by simp; omega
        simp [this]
      rw [ih (by omega) fun j hj => hne j (by omega), h1, if_neg hin]
      split
      · exact Act.put_comm _ v (vs n) fun d hd => hne n (by omega) hin d hd
      · rfl

/-- An operation in one frame, where in another it yields what a fact tells. -/
theorem wp_carry {o : Oper} {a b : Act} {w : World} {R : Value → World → Prop} {K : Act → World → Prop} (he : execOp a.eval o = execOp b.eval o) (hd : ∀ d, o.dst = some d → d < b.tmps.size)
    (h : o.wp P b w (fun b' w' => ∃ v, b' = b.put o.dst v ∧ R v w') (fun _ _ _ => False)) (hK : ∀ v w', R v w' → K (a.put o.dst v) w') : o.wp P a w K Q := by
  have hv : ∀ u v w', b.put o.dst u = b.put o.dst v → R v w' → K (a.put o.dst u) w' := by
    intro u v w' heq hR
    cases hdst : o.dst with
    | none =>
      have := hK v w' hR
      rw [hdst] at this
      exact this
    | some d =>
      have hlt := hd d hdst
      rw [hdst] at heq
      have h1 : (b.put (some d) u).tmps[d]? = (b.put (some d) v).tmps[d]? := by rw [heq]
      simp only [Act.put, Array.getElem?_setIfInBounds_self, hlt, if_true] at h1
      injection h1 with h1
      subst h1
      have := hK u w' hR
      rw [hdst] at this
      exact this
  unfold Oper.wp at *
  rw [he]
  generalize (execOp b.eval o).run P w = r at *
  cases r with
  | ok n w' =>
    cases n <;> simp only [Oper.upon] at h ⊢
    case value u => obtain ⟨v, h1, h2⟩ := h; exact hv u v w' h1 h2
    case skip => obtain ⟨v, h1, h2⟩ := h; exact hv _ v w' h1 h2
    case defer d =>
      obtain ⟨v, h1, h2⟩ := h
      exfalso
      have h3 : (({ b with defers := d :: b.defers } : Act).put o.dst undef).defers = (b.put o.dst v).defers := by rw [h1]
      have h4 : ∀ (x : Act) (u : Value), (x.put o.dst u).defers = x.defers := by intro x u; unfold Act.put; split <;> rfl
      rw [h4, h4] at h3
      have := congrArg List.length h3
      simp at this
    case enter f args =>
      refine Calls.mono h fun e w'' he => ?_
      cases e with
      | returned u => obtain ⟨v, h1, h2⟩ := he; exact hv u v w'' h1 h2
      | panicked c => exact he.elim
      | outgrown => obtain ⟨_, _, hf⟩ := he; exact hf.elim
    case row row args => exact Rows.mono h fun u w'' ⟨v, h1, h2⟩ => hv u v w'' h1 h2
  | halt x w' =>
    cases x <;> simp only [Oper.upon] at h

/-- What regionOk says, operation by operation. -/
theorem regionOk_at {size i : Nat} {o : Oper} (h : regionOk ops size = true) (ho : ops[i]? = some o) :
    (∀ e ∈ o.after, Region.binds .any e = true → e.on < i) ∧ (∀ cs b, o.op ≠ .select cs b) ∧ (∀ d, o.dst = some d → d < size ∧ ∀ j, j < ops.size → j ≠ i → rdst ops j ≠ some d) ∧
    (∀ d ∈ o.looksAt ops, ∀ j, j < ops.size → j ≠ i → rdst ops j = some d → rpred ops j i = true ∨ rpred ops i j = true) := by
  have hlt : i < ops.size := (Array.getElem?_eq_some_iff.1 ho).1
  unfold regionOk at h
  rw [List.all_eq_true] at h
  have h1 := h i (List.mem_range.2 hlt)
  rw [ho, Option.map_some, Option.getD_some] at h1
  simp only [Bool.and_eq_true] at h1
  obtain ⟨⟨⟨h2, h3⟩, h4⟩, h5⟩ := h1
  refine ⟨fun e he hbd => ?_, fun cs b hs => ?_, fun d hd => ?_, fun d hd j hj hne hdj => ?_⟩
  · rw [Array.all_eq_true_iff_forall_mem] at h2
    have h6 := h2 e he
    rw [hbd, Bool.not_true, Bool.false_or] at h6
    exact of_decide_eq_true h6
  · rw [hs] at h3; cases h3
  · rw [hd] at h4
    simp only [Bool.and_eq_true, List.all_eq_true, decide_eq_true_eq] at h4
    refine ⟨h4.1, fun j hj hne hdj => ?_⟩
    have h6 := h4.2 j (List.mem_range.2 hj)
    rw [hdj] at h6
    simp at h6
    exact hne h6
  · rw [List.all_eq_true] at h5
    have h6 := h5 d hd
    rw [List.all_eq_true] at h6
    have h7 := h6 j (List.mem_range.2 hj)
    rw [hdj] at h7
    simp at h7
    rcases h7 with (h7 | h7) | h7
    · exact absurd h7 hne
    · exact .inl h7
    · exact .inr h7

theorem wanted_congr {o : Oper} {a b : Act} (h : ∀ d ∈ o.looksAt ops, a.tmps[d]? = b.tmps[d]?) : Region.wanted o (yielded ops a.tmps) = Region.wanted o (yielded ops b.tmps) := by
  unfold Region.wanted
  cases hg : o.guard with
  | none => rfl
  | some p =>
    obtain ⟨g, want⟩ := p
    have hy : yielded ops a.tmps g = yielded ops b.tmps g := by
      unfold yielded
      cases hd : (ops[g]?).bind (·.dst) with
      | none => rfl
      | some d =>
        have := h d (List.mem_append_right _ (by rw [hg]; simp [hd]))
        simp only [Option.bind_some, this]
    simp only [hy]

/-- How many operations are still to come. -/
def left (n : Nat) (l : Array Bool) : Nat := ((List.range n).filter fun i => !l.getD i false).length

theorem left_set_in {n : Nat} {l : Array Bool} {i : Nat} (hi : i < n) (hs : n ≤ l.size) (h : l.getD i false = false) : left n (l.setIfInBounds i true) < left n l := by
  unfold left
  have hsub : (List.range n).filter (fun j => !(l.setIfInBounds i true).getD j false) = ((List.range n).filter fun j => !l.getD j false).filter (fun j => !(l.setIfInBounds i true).getD j false) := by
    rw [List.filter_filter]
    refine List.filter_congr fun j hj => ?_
    by_cases hij : i = j
    · subst hij
      have : i < l.size := by omega
      simp [this]
    · rw [getD_set_ne false hij, Bool.and_self]
  rw [hsub]
  have hmem : i ∈ (List.range n).filter fun j => !l.getD j false := List.mem_filter.2 ⟨List.mem_range.2 hi, by rw [h]; rfl⟩
  refine Nat.lt_of_le_of_ne (List.length_filter_le _ _) fun heq => ?_
  have := List.length_filter_eq_length_iff.1 heq i hmem
  have : i < l.size := by omega
  simp_all
theorem puts_cut (mk : Nat → Bool) (vs : Nat → Value) (a : Act) (m : Nat) : ∀ n, m ≤ n → (∀ j, m ≤ j → j < n → mk j = false) → puts ops mk vs n a = puts ops mk vs m a
  | 0, h, _ => by rw [Nat.le_zero.1 h]
  | n + 1, h, hk => by
    by_cases he : m = n + 1
    · subst he; rfl
    · rw [puts, if_neg (by rw [hk n (by omega) (by omega)]; decide), puts_cut mk vs a m n (by omega) fun j h1 h2 => hk j h1 (by omega)]
theorem wpAny_more {md : Region.Mode} : ∀ (f : Nat) (l : Array Bool) (a : Act) (w : World), wpAny P md ops Q f l a w → wpAny P md ops Q (f + 1) l a w
  | 0, _, _, _, h => ⟨fun _ => h.2, fun i hi => by rw [h.1] at hi; cases hi⟩
  | f + 1, l, a, w, h => ⟨h.1, fun i hi => wpOp_mono (fun a' w' h' => wpAny_more f _ a' w' h') (h.2 i hi)⟩
theorem wpAny_add {md : Region.Mode} (f g : Nat) (l : Array Bool) (a : Act) (w : World) (h : wpAny P md ops Q g l a w) : wpAny P md ops Q (f + g) l a w := by
  induction f with
  | zero => rwa [Nat.zero_add]
  | succ f ih => rw [show f + 1 + g = (f + g) + 1 by omega]; exact wpAny_more _ _ _ _ ih
/-- **A region that draws, whose first m operations are each shown once** (the frame: as the text's order gives it); what follows them is shown from where all these have been done. -/
theorem wpAny_region_core {a0 : Act} {w0 : World} (m : Nat) (hm : m ≤ ops.size) (F : Nat → Value → World → Prop)
    (hok : regionOk ops a0.tmps.size = true)
    (hF : ∀ i v w w', F i v w → Below w.heap.size w w' → F i v w')
    (hstep : ∀ i o, i < m → ops[i]? = some o → ∀ (vs : Nat → Value) (w : World), Below w0.heap.size w0 w → (∀ j, rpred ops j i = true → F j (vs j) w) →
      if Region.wanted o (yielded ops (puts ops (fun _ => true) vs i a0).tmps) = true then
        o.wp P (puts ops (fun _ => true) vs i a0) w (fun a' w' => ∃ v, a' = (puts ops (fun _ => true) vs i a0).put o.dst v ∧ F i v w' ∧ Below w.heap.size w w') (fun _ _ _ => False)
      else F i undef w)
    (hwait : ∀ l : Array Bool, HeadInv .any ops m l → (∃ i, i < m ∧ l.getD i true = false) → ∀ t, m ≤ t → t ∉ Region.ready .any ops l)
    (hfin : ∀ (l : Array Bool) (vs : Nat → Value) (w : World), l.size = ops.size → (∀ j, j < m → l.getD j false = true) → (∀ j, m ≤ j → j < ops.size → l.getD j false = false) → Below w0.heap.size w0 w → (∀ i, i < m → F i (vs i) w) →
      wpAny P .any ops Q (ops.size - m) l (puts ops (fun _ => true) vs m a0) w) :
    wpAny P .any ops Q ops.size (Array.replicate ops.size false) a0 { w0 with drawn := w0.drawn + 1 } := by
  have main : ∀ (fuel : Nat) (l : Array Bool) (vs : Nat → Value) (w : World), l.size = ops.size → left m l ≤ fuel → (∀ i j, i < ops.size → l.getD i false = true → rpred ops j i = true → l.getD j false = true) →
      (∀ t, m ≤ t → t < ops.size → l.getD t false = false) →
      (∀ i, i < ops.size → l.getD i false = true → F i (vs i) w) → Below w0.heap.size w0 w → wpAny P .any ops Q (fuel + (ops.size - m)) l (puts ops (fun j => l.getD j false) vs ops.size a0) w := by
    intro fuel
    have hend : ∀ (f : Nat) (l : Array Bool) (vs : Nat → Value) (w : World), l.size = ops.size → (∀ t, m ≤ t → t < ops.size → l.getD t false = false) → (∀ i, i < ops.size → l.getD i false = true → F i (vs i) w) → Below w0.heap.size w0 w → (∀ j, j < m → l.getD j false = true) →
        wpAny P .any ops Q (f + (ops.size - m)) l (puts ops (fun j => l.getD j false) vs ops.size a0) w := by
      intro f l vs w hs htl hfs hb hall
      rw [puts_cut _ vs a0 m ops.size hm htl, puts_congr (fun j => l.getD j false) (fun _ => true) vs vs a0 m hall (fun _ _ _ => rfl)]
      exact wpAny_add _ _ _ _ _ (hfin l vs w hs hall htl hb fun i hi => hfs i (by omega) (hall i hi))
    induction fuel with
    | zero =>
      intro l vs w hs hl hcl htl hfs hb
      refine hend 0 l vs w hs htl hfs hb fun j hj => ?_
      cases h1 : l.getD j false with
      | true => rfl
      | false => have := left_set_in hj (by omega) h1; omega
    | succ fuel ih =>
      intro l vs w hs hl hcl htl hfs hb
      by_cases hall : ∀ j, j < m → l.getD j false = true
      · exact hend _ l vs w hs htl hfs hb hall
      obtain ⟨j0, hj0⟩ := Classical.not_forall.1 hall
      have hj0m : j0 < m := by
        rcases Nat.lt_or_ge j0 m with h | h
        · exact h
        · exact absurd (fun h' => absurd h' (by omega)) hj0
      have hj0f : l.getD j0 false = false := by
        cases h1 : l.getD j0 false with
        | false => rfl
        | true => exact absurd (fun _ => h1) hj0
      have hinv : HeadInv .any ops m l := by
        refine ⟨hs, fun j oj hj hlj e he hbd => ?_, fun t ht ht' => getD_in (by omega) (htl t ht ht')⟩
        refine hcl j e.on (Array.getElem?_eq_some_iff.1 hj).1 hlj ?_
        unfold rpred
        rw [hj, Option.map_some, Option.getD_some, List.any_eq_true]
        exact ⟨e, by simpa using he, by rw [hbd]; simp⟩
      have hwt := hwait l hinv ⟨j0, hj0m, getD_in (by omega) hj0f⟩
      rw [show fuel + 1 + (ops.size - m) = (fuel + (ops.size - m)) + 1 by omega]
      refine ⟨fun hr => ?_, fun i hi => ?_⟩
      · exfalso
        have hallb : ∀ i, i < m → l.getD i false = true := by
          intro i
          induction i using Nat.strongRecOn with
          | ind i ih =>
            intro hi
            by_cases hl : l.getD i false = true
            · exact hl
            · exfalso
              have ho : ops[i]? = some ops[i] := Array.getElem?_eq_getElem (by omega)
              have hok' := regionOk_at hok ho
              have hmem : i ∈ Region.ready .any ops l := mem_ready.2 ⟨by
                have : i < l.size := by omega
                simp [this] at hl ⊢
                exact hl, ops[i], ho, fun e he hbd => ih e.on (hok'.1 e he hbd) (by have := hok'.1 e he hbd; omega)⟩
              rw [hr] at hmem
              cases hmem
        exact absurd (hallb j0 hj0m) (by rw [hj0f]; decide)
      have him : i < m := by
        rcases Nat.lt_or_ge i m with h | h
        · exact h
        · exact absurd hi (hwt i h)
      obtain ⟨h0, o, ho, hpre⟩ := mem_ready.1 hi
      have hlt : i < ops.size := (Array.getElem?_eq_some_iff.1 ho).1
      have h1 : l.getD i false = false := by
        have : i < l.size := by omega
        simp [this] at h0 ⊢
        exact h0
      obtain ⟨hback, hsel, hdst, hlook⟩ := regionOk_at hok ho
      have hpred : ∀ j, rpred ops j i = true → l.getD j false = true ∧ j < i := by
        intro j hj
        unfold rpred at hj
        rw [ho, Option.map_some, Option.getD_some, List.any_eq_true] at hj
        obtain ⟨e, he, hej⟩ := hj
        have he : e ∈ o.after := by simpa using he
        simp at hej
        rw [← hej.2]
        exact ⟨hpre e he hej.1, hback e he hej.1⟩
      have hrd : rdst ops i = o.dst := by unfold rdst; rw [ho]; rfl
      -- what the operation looks at is the same in both frames
      have hsame : ∀ d ∈ o.looksAt ops, (puts ops (fun j => l.getD j false) vs ops.size a0).tmps[d]? = (puts ops (fun _ => true) vs i a0).tmps[d]? := by
        intro d hd
        by_cases hex : ∃ j, j < ops.size ∧ j ≠ i ∧ rdst ops j = some d
        · obtain ⟨j, hj, hne, hjd⟩ := hex
          have hoj : ops[j]? = some ops[j] := Array.getElem?_eq_getElem hj
          have hdj : ops[j].dst = some d := by unfold rdst at hjd; rw [hoj] at hjd; exact hjd
          have huniq : ∀ k, k < ops.size → k ≠ j → rdst ops k ≠ some d := fun k hk hkj => ((regionOk_at hok hoj).2.2.1 d hdj).2 k hk hkj
          rcases hlook d hd j hj hne hjd with hp | hp
          · obtain ⟨hlj, hji⟩ := hpred j hp
            rw [puts_new _ vs a0 d j hjd hlj ops.size hj huniq, puts_new _ vs a0 d j hjd rfl i hji fun k hk => huniq k (by omega)]
          · have hnl : l.getD j false = false := by
              cases hlj : l.getD j false with
              | false => rfl
              | true => exact absurd (hcl j i hj hlj hp) (by rw [h1]; decide)
            have hij : i < j := by
              unfold rpred at hp
              rw [hoj, Option.map_some, Option.getD_some, List.any_eq_true] at hp
              obtain ⟨e, he, hej⟩ := hp
              have he : e ∈ ops[j].after := by simpa using he
              simp at hej
              have := (regionOk_at hok hoj).1 e he hej.1
              omega
            rw [puts_old _ vs a0 d ops.size, puts_old _ vs a0 d i]
            · intro k hk _ hkd
              exact huniq k (by omega) (by omega) hkd
            · intro k hk hlk hkd
              by_cases hkj : k = j
              · subst hkj; rw [hnl] at hlk; cases hlk
              · exact huniq k hk hkj hkd
        · rw [puts_old _ vs a0 d ops.size, puts_old _ vs a0 d i]
          · intro k hk _ hkd; exact hex ⟨k, by omega, by omega, hkd⟩
          · intro k hk hlk hkd
            by_cases hki : k = i
            · subst hki; rw [h1] at hlk; cases hlk
            · exact hex ⟨k, hk, hki, hkd⟩
      have hst := hstep i o him ho vs w hb fun j hj => hfs j (by have := (hpred j hj).2; omega) (hpred j hj).1
      have hwant := wanted_congr hsame
      have hexec : execOp (puts ops (fun j => l.getD j false) vs ops.size a0).eval o = execOp (puts ops (fun _ => true) vs i a0).eval o := by
        refine execOp_congr o hsel fun x hx => ?_
        cases x with
        | tmp d =>
          have hd : d ∈ o.looksAt ops := List.mem_append_left _ (List.mem_filterMap.2 ⟨.tmp d, by simpa using hx, rfl⟩)
          have := hsame d hd
          show (puts ops (fun j => l.getD j false) vs ops.size a0).tmps.getD d undef = (puts ops (fun _ => true) vs i a0).tmps.getD d undef
          rw [Array.getD_eq_getD_getElem?, Array.getD_eq_getD_getElem?, this]
        | _ => rfl
      -- behind it
      have hnext : ∀ v w', F i v w' → Below w.heap.size w w' → wpAny P .any ops Q (fuel + (ops.size - m)) (l.setIfInBounds i true) ((puts ops (fun j => l.getD j false) vs ops.size a0).put o.dst v) w' := by
        intro v w' hv hb'
        have hset := puts_set (ops := ops) (fun j => l.getD j false) vs a0 i v h1 ops.size hlt fun j hj hne d hd => (hdst d (by rw [← hrd]; exact hd)).2 j hj hne
        rw [← hrd, ← hset]
        have hmarks : ∀ j, j < ops.size → (j == i || l.getD j false) = (l.setIfInBounds i true).getD j false := by
          intro j hj
          by_cases hij : i = j
          · subst hij; simp [hs, hlt]
          · rw [getD_set_ne false hij]
            have : (j == i) = false := by simp; omega
            simp [this]
        rw [puts_congr _ (fun j => (l.setIfInBounds i true).getD j false) _ (fun j => if j = i then v else vs j) a0 ops.size hmarks (fun _ _ _ => rfl)]
        refine ih (l.setIfInBounds i true) _ w' (by simp [hs]) (by have := left_set_in him (by omega) h1; omega) ?_ ?_ ?_ (hb.trans (hb'.mono hb.size))
        · intro j k hj hlj hjk
          rw [← hmarks j hj] at hlj
          by_cases hji : j = i
          · subst hji; exact getD_set_true (hpred k hjk).1
          · have : (j == i) = false := by simpa using hji
            rw [this, Bool.false_or] at hlj
            exact getD_set_true (hcl j k hj hlj hjk)
        · intro t ht ht'
          rw [getD_set_ne false (by omega)]
          exact htl t ht ht'
        · intro j hj hlj
          rw [← hmarks j hj] at hlj
          by_cases hji : j = i
          · subst hji; simpa using hv
          · have : (j == i) = false := by simpa using hji
            rw [this, Bool.false_or] at hlj
            simp only [if_neg hji]
            exact hF j _ w w' (hfs j hj hlj) hb'
      unfold wpOp
      rw [ho]
      show if Region.wanted o _ = true then _ else _
      rw [hwant]
      by_cases hw : Region.wanted o (yielded ops (puts ops (fun _ => true) vs i a0).tmps) = true
      · rw [if_pos hw] at hst ⊢
        exact .inl (wp_carry hexec (fun d hd => by rw [puts_size]; exact (hdst d hd).1) hst fun v w' h => hnext v w' h.1 h.2)
      · rw [if_neg hw] at hst ⊢
        exact hnext undef w hst (Below.refl _ _)
  have hinit := main m (Array.replicate ops.size false) (fun _ => undef) { w0 with drawn := w0.drawn + 1 } (by simp) (by unfold left; exact Nat.le_trans (List.length_filter_le _ _) (by simp))
    (fun i j hi h _ => by simp [hi] at h) (fun t _ _ => getD_replicate_false _ _) (fun i hi h => by simp [hi] at h) ⟨rfl, rfl, rfl, Nat.le_refl _, fun _ _ => rfl⟩
  have hz : puts ops (fun j => (Array.replicate ops.size false).getD j false) (fun _ => undef) ops.size a0 = a0 := by
    have : ∀ n, n ≤ ops.size → puts ops (fun j => (Array.replicate ops.size false).getD j false) (fun _ => undef) n a0 = a0 := by
      intro n
      induction n with
      | zero => intro _; rfl
      | succ n ih =>
        intro hn
        have hlt : n < ops.size := by omega
        rw [puts, if_neg (by simp [hlt]), ih (by omega)]
    exact this _ (Nat.le_refl _)
  rw [hz, show m + (ops.size - m) = ops.size by omega] at hinit
  exact hinit

/-- **A region that draws**: each operation is shown once, in the frame that the text's order gives it, knowing of what it waits for; behind the region all facts hold. -/
theorem wpAny_region_facts {a0 : Act} {w0 : World} (F : Nat → Value → World → Prop)
    (hok : regionOk ops a0.tmps.size = true)
    (hF : ∀ i v w w', F i v w → Below w.heap.size w w' → F i v w')
    (hstep : ∀ i o, ops[i]? = some o → ∀ (vs : Nat → Value) (w : World), Below w0.heap.size w0 w → (∀ j, rpred ops j i = true → F j (vs j) w) →
      if Region.wanted o (yielded ops (puts ops (fun _ => true) vs i a0).tmps) = true then
        o.wp P (puts ops (fun _ => true) vs i a0) w (fun a' w' => ∃ v, a' = (puts ops (fun _ => true) vs i a0).put o.dst v ∧ F i v w' ∧ Below w.heap.size w w') (fun _ _ _ => False)
      else F i undef w)
    (hfin : ∀ (vs : Nat → Value) (w : World), Below w0.heap.size w0 w → (∀ i, i < ops.size → F i (vs i) w) → Q .normal (puts ops (fun _ => true) vs ops.size a0) w) :
    wpAny P .any ops Q ops.size (Array.replicate ops.size false) a0 { w0 with drawn := w0.drawn + 1 } := by
  refine wpAny_region_core ops.size (Nat.le_refl _) F hok hF (fun i o _ => hstep i o) (fun l _ _ t ht hr => ?_) fun l vs w hs hall _ hb hf => ?_
  · obtain ⟨_, o, ho, _⟩ := mem_ready.1 hr
    have := (Array.getElem?_eq_some_iff.1 ho).1
    omega
  · rw [Nat.sub_self]
    refine ⟨List.eq_nil_iff_forall_not_mem.2 fun i hi => ?_, hfin vs w hb hf⟩
    obtain ⟨h0, o, ho, _⟩ := mem_ready.1 hi
    have hlt := (Array.getElem?_eq_some_iff.1 ho).1
    have h1 := hall i hlt
    have : i < l.size := by omega
    simp [this] at h0 h1
    rw [h0] at h1
    cases h1
/-- Which operation, of those that i waits for, leaves what lies at place d. -/
def writer (ops : Array Oper) (i d : Nat) : Option Nat := (List.range ops.size).find? fun j => rdst ops j == some d && rpred ops j i

/-- What operation i sees: of what it waits for the values, else the frame as it was. -/
def sees (ops : Array Oper) (vs : Nat → Value) (a0 : Act) (i : Nat) : Operand → Value
  | .tmp d => match writer ops i d with | some j => vs j | none => a0.eval (.tmp d)
  | x => a0.eval x

/-- What is known of what an operation sees. -/
structure RCtx (ops : Array Oper) (F : Nat → Value → World → Prop) (a0 : Act) (i : Nat) (ρ : Operand → Value) (w : World) : Prop where
  const : ∀ v, ρ (.const v) = v
  func : ∀ f, ρ (.func f) = .func (.func f) #[] #[]
  glob : ∀ g, ρ (.global g) = .pointer (some ⟨g, 0, none⟩)
  new : ∀ d j, writer ops i d = some j → F j (ρ (.tmp d)) w
  old : ∀ d v, writer ops i d = none → a0.eval (.tmp d) = v → ρ (.tmp d) = v

/-- An operation yields a value of which R tells. -/
def Gives (P : Program) (o : Oper) (ρ : Operand → Value) (w : World) (R : Value → World → Prop) : Prop :=
  match (execOp ρ o).run P w with
  | .ok (.value v) w' => R v w'
  | .ok .skip w' => R undef w'
  | .ok (.enter f args) w' => Calls P f args w' fun e w'' => ∃ v, e = .returned v ∧ R v w''
  | _ => False

/-- What is to be shown of operation i. -/
def StepAt (P : Program) (ops : Array Oper) (F : Nat → Value → World → Prop) (a0 : Act) (w0 : World) (i : Nat) (o : Oper) : Prop :=
  ∀ (ρ : Operand → Value) (w : World), Below w0.heap.size w0 w → RCtx ops F a0 i ρ w →
    match o.guard with
    | none => Gives P o ρ w fun v w' => F i v w' ∧ Below w.heap.size w w'
    | some (g, b) => ∀ d, rdst ops g = some d → (ρ (.tmp d) = .bool b → Gives P o ρ w fun v w' => F i v w' ∧ Below w.heap.size w w') ∧ (ρ (.tmp d) ≠ .bool b → F i undef w)

def StepsFrom (P : Program) (ops : Array Oper) (F : Nat → Value → World → Prop) (a0 : Act) (w0 : World) : Nat → List Oper → Prop
  | _, [] => True
  | i, o :: r => StepAt P ops F a0 w0 i o ∧ StepsFrom P ops F a0 w0 (i + 1) r

theorem stepsFrom_at {F : Nat → Value → World → Prop} {a0 : Act} {w0 : World} : ∀ (l : List Oper) (k : Nat), StepsFrom P ops F a0 w0 k l → ∀ i o, l[i]? = some o → StepAt P ops F a0 w0 (k + i) o := by
  intro l
  induction l with
  | nil => intro k _ i o h; simp at h
  | cons x l ih =>
    intro k hs i o h
    cases i with
    | zero => simp at h; subst h; exact hs.1
    | succ i =>
      have := ih (k + 1) hs.2 i o (by simpa using h)
      rwa [Nat.add_assoc, Nat.add_comm 1] at this

/-- Guards name an operation that leaves a value, and are waited for. -/
def guardsOk (ops : Array Oper) : Bool :=
  (List.range ops.size).all fun i => ((ops[i]?).map fun o => match o.guard with | none => true | some (g, _) => (rdst ops g).isSome).getD false

theorem wp_of_gives {o : Oper} {a : Act} {ρ : Operand → Value} {w : World} {R : Value → World → Prop} {Q : Exit → Act → World → Prop} (he : execOp a.eval o = execOp ρ o) (h : Gives P o ρ w R) :
    o.wp P a w (fun a' w' => ∃ v, a' = a.put o.dst v ∧ R v w') Q := by
  unfold Gives at h
  unfold Oper.wp
  rw [he]
  generalize (execOp ρ o).run P w = r at *
  cases r with
  | ok n w' =>
    cases n <;> simp only [Oper.upon] at h ⊢
    case value u => exact ⟨u, rfl, h⟩
    case skip => exact ⟨_, rfl, h⟩
    case enter f args =>
      refine Calls.mono h fun e w'' he => ?_
      obtain ⟨v, rfl, hv⟩ := he
      exact ⟨v, rfl, hv⟩
  | halt x w' => cases x <;> simp only [] at h

/-- **A region that draws**, in the form in which it is used: a fact for each operation, a step for each. -/
theorem region_step {a0 : Act} {w0 : World} (F : Nat → Value → World → Prop)
    (hok : regionOk ops a0.tmps.size = true) (hgd : guardsOk ops = true)
    (i : Nat) (o : Oper) (ho : ops[i]? = some o) (hst : StepAt P ops F a0 w0 i o) (vs : Nat → Value) (w : World) (hb : Below w0.heap.size w0 w) (hp : ∀ j, rpred ops j i = true → F j (vs j) w) :
      if Region.wanted o (yielded ops (puts ops (fun _ => true) vs i a0).tmps) = true then
        o.wp P (puts ops (fun _ => true) vs i a0) w (fun a' w' => ∃ v, a' = (puts ops (fun _ => true) vs i a0).put o.dst v ∧ F i v w' ∧ Below w.heap.size w w') (fun _ _ _ => False)
      else F i undef w := by
  have hlt : i < ops.size := (Array.getElem?_eq_some_iff.1 ho).1
  obtain ⟨hback, hsel, hdst, hlook⟩ := regionOk_at hok ho
  have hpi : ∀ j, rpred ops j i = true → j < i := by
    intro j hj
    unfold rpred at hj
    rw [ho, Option.map_some, Option.getD_some, List.any_eq_true] at hj
    obtain ⟨e, he, hej⟩ := hj
    simp at hej
    rw [← hej.2]
    exact hback e (by simpa using he) hej.1
  have hw : ∀ d j, writer ops i d = some j → rdst ops j = some d ∧ rpred ops j i = true ∧ j < ops.size := by
    intro d j h
    have h1 := List.find?_some h
    have h2 := List.mem_of_find?_eq_some h
    simp at h1
    exact ⟨h1.1, h1.2, List.mem_range.1 h2⟩
  have hctx : RCtx ops F a0 i (sees ops vs a0 i) w := by
    refine ⟨fun _ => rfl, fun _ => rfl, fun _ => rfl, fun d j h => ?_, fun d v h hv => ?_⟩
    · show F j (match writer ops i d with | some j => vs j | none => a0.eval (.tmp d)) w
      rw [h]
      exact hp j (hw d j h).2.1
    · show (match writer ops i d with | some j => vs j | none => a0.eval (.tmp d)) = v
      rw [h]
      exact hv
  -- what it looks at is what it sees
  have hsee : ∀ d ∈ o.looksAt ops, (puts ops (fun _ => true) vs i a0).tmps.getD d undef = sees ops vs a0 i (.tmp d) := by
    intro d hd
    show _ = (match writer ops i d with | some j => vs j | none => a0.eval (.tmp d))
    cases hwr : writer ops i d with
    | some j =>
      obtain ⟨h1, h2, h3⟩ := hw d j hwr
      have hoj : ops[j]? = some ops[j] := Array.getElem?_eq_getElem h3
      have hdj : ops[j].dst = some d := by unfold rdst at h1; rw [hoj] at h1; exact h1
      have hu := (regionOk_at hok hoj).2.2.1 d hdj
      have hpn := puts_new (ops := ops) (fun _ => true) vs a0 d j h1 rfl i (hpi j h2) fun k hk => hu.2 k (by omega)
      rw [Array.getD_eq_getD_getElem?, hpn]
      simp [Act.put, hu.1]
    | none =>
      have hno : ∀ j, j < i → rdst ops j ≠ some d := by
        intro j hj hjd
        have h1 := hlook d hd j (by omega) (by omega) hjd
        rcases h1 with h1 | h1
        · have h2 := List.find?_eq_none.1 hwr j (List.mem_range.2 (by omega))
          simp [hjd, h1] at h2
        · have hoj : ops[j]? = some ops[j] := Array.getElem?_eq_getElem (by omega)
          unfold rpred at h1
          rw [hoj, Option.map_some, Option.getD_some, List.any_eq_true] at h1
          obtain ⟨e, he, hej⟩ := h1
          simp at hej
          have := (regionOk_at hok hoj).1 e (by simpa using he) hej.1
          omega
      show _ = a0.tmps.getD d undef
      rw [Array.getD_eq_getD_getElem?, Array.getD_eq_getD_getElem?, puts_old (ops := ops) (fun _ => true) vs a0 d i fun j hj _ => hno j hj]
  have hexec : execOp (puts ops (fun _ => true) vs i a0).eval o = execOp (sees ops vs a0 i) o := by
    refine execOp_congr o hsel fun x hx => ?_
    cases x with
    | tmp d => exact hsee d (List.mem_append_left _ (List.mem_filterMap.2 ⟨.tmp d, by simpa using hx, rfl⟩))
    | _ => rfl
  have h1 := hst (sees ops vs a0 i) w hb hctx
  cases hg : o.guard with
  | none =>
    rw [hg] at h1
    have hwa : Region.wanted o (yielded ops (puts ops (fun _ => true) vs i a0).tmps) = true := by unfold Region.wanted; rw [hg]
    rw [if_pos hwa]
    exact wp_of_gives hexec h1
  | some p =>
    obtain ⟨g, b⟩ := p
    rw [hg] at h1
    have hgo : (rdst ops g).isSome = true := by
      unfold guardsOk at hgd
      rw [List.all_eq_true] at hgd
      have := hgd i (List.mem_range.2 hlt)
      rw [ho, Option.map_some, Option.getD_some, hg] at this
      exact this
    obtain ⟨d, hd⟩ := Option.isSome_iff_exists.1 hgo
    obtain ⟨hyes, hno⟩ := h1 d hd
    have hdl : d ∈ o.looksAt ops := List.mem_append_right _ (by rw [hg]; show d ∈ ((ops[g]?).bind (·.dst)).toList; have : (ops[g]?).bind (·.dst) = some d := hd; rw [this]; simp)
    have hv := hsee d hdl
    by_cases hw : Region.wanted o (yielded ops (puts ops (fun _ => true) vs i a0).tmps) = true
    · rw [if_pos hw]
      refine wp_of_gives hexec (hyes ?_)
      rw [← hv]
      unfold Region.wanted at hw
      rw [hg] at hw
      have hd' : (ops[g]?).bind (·.dst) = some d := hd
      simp only [yielded, hd', Option.bind_some] at hw
      rw [Array.getD_eq_getD_getElem?]
      cases hx : (puts ops (fun _ => true) vs i a0).tmps[d]? with
      | none => rw [hx] at hw; simp at hw
      | some v =>
        rw [hx] at hw
        cases v <;> simp at hw
        subst hw
        rfl
    · rw [if_neg hw]
      refine hno fun h => hw ?_
      rw [← hv, Array.getD_eq_getD_getElem?] at h
      unfold Region.wanted
      rw [hg]
      have hd' : (ops[g]?).bind (·.dst) = some d := hd
      simp only [yielded, hd', Option.bind_some]
      cases hx : (puts ops (fun _ => true) vs i a0).tmps[d]? with
      | none => rw [hx] at h; cases h
      | some v =>
        rw [hx] at h
        have h : v = .bool b := h
        subst h
        simp
theorem stepsFrom_all {F : Nat → Value → World → Prop} {a0 : Act} {w0 : World} (h : StepsFrom P ops F a0 w0 0 ops.toList) (i : Nat) (o : Oper) (ho : ops[i]? = some o) : StepAt P ops F a0 w0 i o := by
  have := stepsFrom_at ops.toList 0 h i o (by simpa using ho)
  simpa using this
theorem wpAny_region_steps {a0 : Act} {w0 : World} (F : Nat → Value → World → Prop)
    (hok : regionOk ops a0.tmps.size = true) (hgd : guardsOk ops = true)
    (hF : ∀ i v w w', F i v w → Below w.heap.size w w' → F i v w')
    (hsteps : StepsFrom P ops F a0 w0 0 ops.toList)
    (hfin : ∀ (vs : Nat → Value) (w : World), Below w0.heap.size w0 w → (∀ i, i < ops.size → F i (vs i) w) → Q .normal (puts ops (fun _ => true) vs ops.size a0) w) :
    wpAny P .any ops Q ops.size (Array.replicate ops.size false) a0 { w0 with drawn := w0.drawn + 1 } :=
  wpAny_region_facts F hok hF (fun i o ho => region_step F hok hgd i o ho (stepsFrom_all hsteps i o ho)) hfin
/-- The tail of such a region waits for all ahead of it, and stands in one order. (n: where it begins.) -/
def forcedB (ops : Array Oper) (n : Nat) : Bool :=
  decide (n < ops.size) && Region.sinkB .any ops n && Region.chainB .any ops n && Region.seqB .any ops (ops.size - n) n ((Array.range ops.size).map fun i => decide (i < n))
theorem mask_eq {l : Array Bool} {n s : Nat} (hs : l.size = s) (h1 : ∀ j, j < n → l.getD j false = true) (h2 : ∀ j, n ≤ j → j < s → l.getD j false = false) : l = (Array.range s).map fun i => decide (i < n) := by
  apply Array.ext
  · simp [hs]
  · intro i hi _
    by_cases h : i < n
    · have := h1 i h
      simp [hi] at this
      simp [this, h]
    · have := h2 i (by omega) (by omega)
      simp [hi] at this
      simp [this, h]
/-- **A region that draws and ends in operations that are forced**: those ahead of them each shown once, by facts that later worlds keep; the others in their order. -/
theorem wpAny_region_tail {a0 : Act} {w0 : World} (n : Nat) (F : Nat → Value → World → Prop)
    (hok : regionOk ops a0.tmps.size = true) (hgd : guardsOk ops = true) (hfo : forcedB ops n = true)
    (hF : ∀ i v w w', F i v w → Below w.heap.size w w' → F i v w')
    (hsteps : StepsFrom P ops F a0 w0 0 (ops.toList.take n))
    (hfin : ∀ (vs : Nat → Value) (w : World), Below w0.heap.size w0 w → (∀ i, i < n → F i (vs i) w) → wpList P ops Q (ops.toList.drop n) (puts ops (fun _ => true) vs n a0) w) :
    wpAny P .any ops Q ops.size (Array.replicate ops.size false) a0 { w0 with drawn := w0.drawn + 1 } := by
  unfold forcedB at hfo
  simp only [Bool.and_eq_true, decide_eq_true_eq] at hfo
  obtain ⟨⟨⟨hn, hsk⟩, hch⟩, hsq⟩ := hfo
  refine wpAny_region_core n (by omega) F hok hF (fun i o hi ho => region_step F hok hgd i o ho ?_) (fun l inv ⟨i, hi, hun⟩ t ht => tail_waits hsk hch hn inv _ i rfl hi hun t ht) fun l vs w hs h1 h2 hb hf => ?_
  · have := stepsFrom_at (ops.toList.take n) 0 hsteps i o (by rw [List.getElem?_take, if_pos hi]; simpa using ho)
    simpa using this
  · rw [mask_eq hs h1 h2]
    have h := wpAny_of_seq (P := P) (ops := ops) (md := .any) (Q' := Q) (ops.toList.drop n) n ((Array.range ops.size).map fun i => decide (i < n)) (puts ops (fun _ => true) vs n a0) w (fun j => by rw [List.getElem?_drop]; simp)
      (by rw [List.length_drop, Array.length_toList]; exact hsq) (hfin vs w hb hf)
    rwa [List.length_drop, Array.length_toList] at h
end

end Go.Proofs.YtblpkmmhmdpkjaaGreatDoor

/- Operations of a region, one by one: what each yields. Over any program. -/











namespace Go.Proofs.YtblpkmmhmdpkjaaGreatDoor

open Go.RowKit

section

variable {P : Program} {o : Oper} {ρ : Operand → Value} {w w' : World} {R : Value → World → Prop}

theorem gives_of {v : Value} (h : (execOp ρ o).run P w = .ok (.value v) w') (hR : R v w') : Gives P o ρ w R := by
  unfold Gives; rw [h]; exact hR
theorem gives_move {x : Operand} {v : Value} (ho : o.op = .move x) (hx : ρ x = v) (hR : R v w) : Gives P o ρ w R := by
  refine gives_of (v := v) (w' := w) ?_ hR
  simp [execOp, ho, hx]
theorem gives_assign {x : Operand} {v : Value} (ho : o.op = .assign x) (hx : ρ x = v) (hR : R v w) : Gives P o ρ w R := by
  refine gives_of (v := v) (w' := w) ?_ hR
  simp [execOp, ho, hx]
theorem gives_convert {s d : TypeId} {x : Operand} {u v : Value} (ho : o.op = .convert s d x) (hx : ρ x = u) (h : (convert s d u).run P w = .ok v w') (hR : R v w') : Gives P o ρ w R := by
  refine gives_of (v := v) (w' := w') ?_ hR
  simp [execOp, ho, hx, h]
/-- A call of a Go function, by its contract. -/
theorem gives_call {f : FuncId} {xs : Array Operand} {ts : Array TypeId} {args : Array Value} (ho : o.op = .call { callee := .value (.func f), args := xs, argTypes := ts })
    (hent : ∀ (args : Array Value) (w : World), (callFunc f args).run P w = .ok (.enter f args) w) (hf : ρ (.func f) = .func (.func f) #[] #[]) (ha : xs.map ρ = args)
    (h : Calls P f args w fun e w' => ∃ v, e = .returned v ∧ R v w') : Gives P o ρ w R := by
  have hr : (execOp ρ o).run P w = .ok (.enter f args) w := by
    simp [execOp, ho, resolve, hf, ha, Deferred.ofValue, invoke, hent]
  unfold Gives
  rw [hr]
  exact h
theorem gives_len {x : Operand} {t e : TypeId} (ht : P.underlying t = some (.slice e)) {A : Option Addr} {n c : Nat} (ho : o.op = .call { callee := .builtin .len, args := #[x], argTypes := #[t] }) (hx : ρ x = .slice A n c) (hR : R (.int .i64 (n : Int)) w) : Gives P o ρ w R := by
  refine gives_of (v := .int .i64 (n : Int)) (w' := w) ?_ hR
  simp [execOp, ho, hx, resolve, invoke, go_sem, Builtin.len_, builtin, Builtin.lenOf, run_underlying ht]
theorem gives_sub {t t' : TypeId} {x y : Operand} {a b : Int} (ho : o.op = .binOp .sub t x y t') (hx : ρ x = .int .i64 a) (hy : ρ y = .int .i64 b) (h0 : -9223372036854775808 ≤ a - b) (h1 : a - b ≤ 9223372036854775807) (hR : R (.int .i64 (a - b)) w) : Gives P o ρ w R := by
  refine gives_of (v := .int .i64 (a - b)) (w' := w) ?_ hR
  have hw : IntKind.i64.wrap (a - b) = a - b := IntWalk.i64_in _ (by omega)
  simp [execOp, ho, hx, hy, go_sem, hw]
theorem Elem.size_ {t e : TypeId} {bytes : Nat} {z : Value} (E : Elem P t e bytes z) (w : World) : (sizeOf e).run P w = .ok 1 w := by
  obtain ⟨i, h1, _, h3, _⟩ := E.info
  simp [sizeOf, typeInfo, h1, h3]
theorem gives_add {t t' : TypeId} {x y : Operand} {a b : Int} (ho : o.op = .binOp .add t x y t') (hx : ρ x = .int .i64 a) (hy : ρ y = .int .i64 b) (h0 : -9223372036854775808 ≤ a + b) (h1 : a + b ≤ 9223372036854775807) (hR : R (.int .i64 (a + b)) w) : Gives P o ρ w R := by
  refine gives_of (v := .int .i64 (a + b)) (w' := w) ?_ hR
  have hw : IntKind.i64.wrap (a + b) = a + b := IntWalk.i64_in _ (by omega)
  simp [execOp, ho, hx, hy, go_sem, hw]
end

/-- What is known of a value, and stays known in later worlds. -/
structure Fact where
  holds : Value → World → Prop
  stays : ∀ v w w', holds v w → Below w.heap.size w w' → holds v w'
def Fact.any : Fact := ⟨fun _ _ => True, fun _ _ _ _ _ => trivial⟩
def Fact.is (u : Value) : Fact := ⟨fun v _ => v = u, fun _ _ _ h _ => h⟩
/-- A slice that holds bytes. -/
def IsB (l : List UInt8) (v : Value) (w : World) : Prop := ∃ A c, v = .slice A l.length c ∧ (A = none → l.length = 0) ∧ l.length ≤ c ∧ c ≤ maxLen ∧ Lies w A (l.map bv)
theorem IsB.below {l : List UInt8} {v : Value} {w w' : World} (h : IsB l v w) (hb : Below w.heap.size w w') : IsB l v w' := by
  obtain ⟨A, c, h1, h2, h3, h4, h5⟩ := h
  exact ⟨A, c, h1, h2, h3, h4, h5.below hb⟩
def Fact.bytes (l : List UInt8) : Fact := ⟨IsB l, fun _ _ _ h hb => h.below hb⟩
def facts (L : List Fact) (i : Nat) : Value → World → Prop := (L.getD i Fact.any).holds

theorem RetB.isB {w w' : World} {l : List UInt8} {e : Ending} (h : RetB w l e w') : ∃ v, e = .returned v ∧ IsB l v w' ∧ Below w.heap.size w w' := by
  obtain ⟨A, c, h1, h2, h3, h4, h5, h6⟩ := h
  exact ⟨_, h1, ⟨A, c, rfl, h2, h3, h4, h5⟩, h6⟩

theorem IsB.text {P : Program} {w : World} {l : List UInt8} {v : Value} (h : IsB l v w) (src e dst : TypeId) (hs : P.underlying src = some (.slice e)) (he : P.underlying e = some (.int .u8)) (hd : P.underlying dst = some .string) :
    (convert src dst v).run P w = .ok (.string ⟨l.toArray⟩) w := by
  obtain ⟨A, c, rfl, _, _, _, h5⟩ := h
  exact run_text w src e dst hs he hd A _ c l rfl h5
theorem IsB.ret {w w' : World} {l : List UInt8} {v : Value} (h : IsB l v w') (hb : Below w.heap.size w w') : RetB w l (.returned v) w' := by
  obtain ⟨A, c, rfl, h2, h3, h4, h5⟩ := h
  exact ⟨A, c, rfl, h2, h3, h4, h5, hb⟩

/-- The frame behind a region: each operation's value at its place, in the order of the text. -/
def putAll (vs : Nat → Value) : List (Option Tmp) → Nat → Act → Act
  | [], _, a => a
  | d :: r, i, a => putAll vs r (i + 1) (a.put d (vs i))
theorem putAll_snoc (vs : Nat → Value) (d : Option Tmp) : ∀ (l : List (Option Tmp)) (i : Nat) (a : Act), putAll vs (l ++ [d]) i a = (putAll vs l i a).put d (vs (i + l.length)) := by
  intro l
  induction l with
  | nil => intro i a; rfl
  | cons x l ih => intro i a; show putAll vs (l ++ [d]) (i + 1) (a.put x (vs i)) = _; rw [ih]; simp only [putAll, List.length_cons]; congr 2; omega
theorem puts_some (ops : Array Oper) (vs : Nat → Value) (a : Act) : ∀ n, n ≤ ops.size → puts ops (fun _ => true) vs n a = putAll vs ((ops.toList.take n).map (·.dst)) 0 a := by
    intro n
    induction n with
    | zero => intro _; rfl
    | succ n ih =>
      intro hn
      have hlt : n < ops.toList.length := by simp; omega
      rw [puts, if_pos rfl, ih (by omega), List.take_succ_eq_append_getElem hlt, List.map_append, List.map_cons, List.map_nil, putAll_snoc]
      have h1 : rdst ops n = ops.toList[n].dst := by unfold rdst; rw [Array.getElem?_eq_getElem (by omega)]; simp
      have h2 : ((ops.toList.take n).map (·.dst)).length = n := by rw [List.length_map, List.length_take]; omega
      rw [h1, h2, Nat.zero_add]
theorem puts_all (ops : Array Oper) (vs : Nat → Value) (a : Act) : puts ops (fun _ => true) vs ops.size a = putAll vs (ops.toList.map (·.dst)) 0 a := by
  rw [puts_some ops vs a ops.size (Nat.le_refl _), List.take_of_length_le (by simp)]

theorem wpAny_region_list {P : Program} {ops : Array Oper} {Q : Exit → Act → World → Prop} {a0 : Act} {w0 : World} (L : List Fact) (ds : List (Option Tmp))
    (hok : regionOk ops a0.tmps.size = true) (hgd : guardsOk ops = true) (hds : ops.toList.map (·.dst) = ds) (hsteps : StepsFrom P ops (facts L) a0 w0 0 ops.toList)
    (hfin : ∀ (vs : Nat → Value) (w : World), Below w0.heap.size w0 w → (∀ i, i < ds.length → facts L i (vs i) w) → Q .normal (putAll vs ds 0 a0) w) :
    wpAny P .any ops Q ops.size (Array.replicate ops.size false) a0 { w0 with drawn := w0.drawn + 1 } :=
  wpAny_region_steps (facts L) hok hgd (fun i v w w' h hb => (L.getD i Fact.any).stays v w w' h hb) hsteps (fun vs w hb h => by
    subst hds
    rw [puts_all]
    exact hfin vs w hb fun i hi => h i (by simpa using hi))
theorem wp_region_list {P : Program} {ops : Array Oper} {Q : Exit → Act → World → Prop} {id : Nat} {a0 : Act} {w0 : World} (L : List Fact) (ds : List (Option Tmp)) (hm : P.follows .mixedOrders = true)
    (hok : regionOk ops a0.tmps.size = true) (hgd : guardsOk ops = true) (hds : ops.toList.map (·.dst) = ds) (hsteps : StepsFrom P ops (facts L) a0 w0 0 ops.toList)
    (hfin : ∀ (vs : Nat → Value) (w : World), Below w0.heap.size w0 w → (∀ i, i < ds.length → facts L i (vs i) w) → Q .normal (putAll vs ds 0 a0) w) :
    (Code.region id ops true).wp P Q a0 w0 := wp_region_any hm (wpAny_region_list L ds hok hgd hds hsteps hfin)
/-- Such a region whose last operations, from the n-th on, are forced (an append to what the call owns, a store): these are walked. -/
theorem wpAny_region_list_tail {P : Program} {ops : Array Oper} {Q : Exit → Act → World → Prop} {a0 : Act} {w0 : World} (n : Nat) (L : List Fact) (ds : List (Option Tmp))
    (hok : regionOk ops a0.tmps.size = true) (hgd : guardsOk ops = true) (hfo : forcedB ops n = true) (hds : (ops.toList.take n).map (·.dst) = ds) (hsteps : StepsFrom P ops (facts L) a0 w0 0 (ops.toList.take n))
    (hfin : ∀ (vs : Nat → Value) (w : World), Below w0.heap.size w0 w → (∀ i, i < ds.length → facts L i (vs i) w) → wpList P ops Q (ops.toList.drop n) (putAll vs ds 0 a0) w) :
    wpAny P .any ops Q ops.size (Array.replicate ops.size false) a0 { w0 with drawn := w0.drawn + 1 } := by
  have hn : n < ops.size := by
    have h := hfo
    unfold forcedB at h
    simp only [Bool.and_eq_true, decide_eq_true_eq] at h
    exact h.1.1.1
  refine wpAny_region_tail n (facts L) hok hgd hfo (fun i v w w' h hb => (L.getD i Fact.any).stays v w w' h hb) hsteps (fun vs w hb h => ?_)
  subst hds
  rw [puts_some ops vs a0 n (by omega)]
  exact hfin vs w hb fun i hi => h i (by rw [List.length_map, List.length_take] at hi; omega)
theorem wp_region_list_tail {P : Program} {ops : Array Oper} {Q : Exit → Act → World → Prop} {id : Nat} {a0 : Act} {w0 : World} (n : Nat) (L : List Fact) (ds : List (Option Tmp)) (hm : P.follows .mixedOrders = true)
    (hok : regionOk ops a0.tmps.size = true) (hgd : guardsOk ops = true) (hfo : forcedB ops n = true) (hds : (ops.toList.take n).map (·.dst) = ds) (hsteps : StepsFrom P ops (facts L) a0 w0 0 (ops.toList.take n))
    (hfin : ∀ (vs : Nat → Value) (w : World), Below w0.heap.size w0 w → (∀ i, i < ds.length → facts L i (vs i) w) → wpList P ops Q (ops.toList.drop n) (putAll vs ds 0 a0) w) :
    (Code.region id ops true).wp P Q a0 w0 := wp_region_any hm (wpAny_region_list_tail n L ds hok hgd hfo hds hsteps hfin)
end Go.Proofs.YtblpkmmhmdpkjaaGreatDoor

/- From a law's walk to its row: the law answers true and leaves old memory as it was, so each argument reads behind the call as it read before. Over any program. -/















namespace Go.Proofs.YtblpkmmhmdpkjaaGreatDoor

open Go.RowKit Go.ChangeShapes Go.WideShapes Go.ChangeAt

section

variable {H : Type} {enc : TypeId × Value → H} {P : Program}

theorem trodAll_later (hl : laidOutB P = true) {W W' : World} (hb : Below W.heap.size W W') :
    ∀ {ts : List TypeId} {vs : List Value} {ds : List (DataW H)} {ps : List MemPlace}, (ts.all fun t => P.readableRec t && decide (t < P.types.size)) = true →
      DataW.TrodAll enc P W 0 (fun _ => true) true ts vs ds ps → (∀ x ∈ ps, x.block < W.heap.size) → DataW.TrodAll enc P W' 0 (fun b => decide (b < W.heap.size)) true ts vs ds ps
  | [], _, _, _, _, h, _ => by
    obtain ⟨rfl, rfl, rfl⟩ := trodAll_nil h
    exact rfl
  | t :: ts, _, _, _, hr, h, hlt => by
    obtain ⟨v, vs1, d, ds1, a, b, rfl, rfl, rfl, h1, h2⟩ := trodAll_cons h
    simp only [List.all_cons, Bool.and_eq_true, decide_eq_true_eq] at hr
    exact ⟨a, b, Below.trod hl hr.1.1 hr.1.2 h1 hb (fun x hx => hlt x (List.mem_append_left _ hx)), trodAll_later hl hb hr.2 h2 (fun x hx => hlt x (List.mem_append_right _ hx)), rfl⟩

/-- What a law's row asks behind the call. -/
theorem law_post {f : Func} {s : ChangeSpec} {tb : TypeId} {W W' : World} {args : Array Value} {ds : List (DataW H)} {before : List MemPlace} (hl : laidOutB P = true) (htb : P.underlying tb = some .bool)
    (hrt : f.resultTypes = #[tb]) (hpar : (f.params.toList.all fun t => P.readableRec t && decide (t < P.types.size)) = true) (hvars : s.vars = [])
    (hW : DataW.Whole enc P f.params.toList s.vars false W args.toList ds [] before) (hfn : s.fn H (ds ++ []) = { results := [.lit (.bool true)], args := ds }) (hb : Below W.heap.size W W') :
    s.post enc P f false true false false W args (.bool true) W' := by
  obtain ⟨p, q, hA, hV, hpq, hfz, hnd⟩ := hW
  have hW : DataW.Whole enc P f.params.toList s.vars false W args.toList ds [] before := ⟨p, q, hA, hV, hpq, hfz, hnd⟩
  refine ⟨ds, [], before, [], p, [], hW, ?_, ?_, ?_, hb.frame _, fun h => by cases h⟩
  · rw [hfn, hrt]
    exact trodAll_cons_mk (shut_bool htb _) trodAll_mk0
  · rw [hfn]
    exact trodAll_later hl hb hpar hA fun x hx => hW.lt x (by rw [hpq]; exact List.mem_append_left _ hx)
  · rw [hfn, hvars]
    rfl
theorem stand_ins {P : Program} {ps : Array TypeId} {j : Nat} {t : TypeId} (h : (ps.toList.all fun u => !P.wantsStandIn u) = true) (ht : ps[j]? = some t) : P.wantsStandIn t = false := by
  have := List.all_eq_true.1 h t (by simpa using Array.mem_of_getElem? ht)
  simpa using this
end

end Go.Proofs.YtblpkmmhmdpkjaaGreatDoor

/- What every law's text of this program uses on its way to the row. -/





namespace Go.Proofs.YtblpkmmhmdpkjaaGreatDoor

open Go.RowKit

theorem wf_i64 {x : Int} (h : (Lit.int .i64 x).wf = true) : -9223372036854775808 ≤ x ∧ x ≤ 9223372036854775807 := by
  simpa [Lit.wf, IntKind.min, IntKind.max, IntKind.signed, IntKind.bits] using h
theorem own : ownKnob Tryz.prog.godebug = none := by kernel_rfl
theorem laidOut : laidOutB Tryz.prog = true := by kernel_rfl
end Go.Proofs.YtblpkmmhmdpkjaaGreatDoor

/- What the contracts of all layers share: endings, bytes and an error that a call answers, slices of the call's own. Over any program but for the last lines. -/



























namespace Go.Proofs.YtblpkmmhmdpkjaaGreatDoor

open Go.RowKit

theorem ret_int {k : IntKind} {a b : Int} (h : a = b) : Ending.returned (.int k a) = .returned (.int k b) := by rw [h]
theorem below_then {a b c : World} (h : Below a.heap.size a b) (k : Below b.heap.size b c) : Below a.heap.size a c := h.trans (k.mono h.size)

/-- A region that draws and whose last operations are forced: the others only read. -/
theorem wp_region_tail {P : Program} {id : Nat} {Q : Exit → Act → World → Prop} {a : Act} {w : World} {l : List Oper} (n : Nat) (hm : P.follows .mixedOrders = true) (hB : Region.lexTailB .any l.toArray n = true)
    (h : wpStill P l.toArray w.drew (fun a' => wpList P l.toArray Q (l.drop n) a' w.drew) (l.take n) a) : (Code.region id l.toArray true).wp P Q a w := wp_region_still_tail n hm hB h
/-- Bits that don't meet are added, in a byte. -/
theorem or_byte (r B S : Nat) (h0 : B % 2 ^ r = 0) (h1 : S < 2 ^ r) (h2 : B + S < 256) : bits .or .u8 (B : Int) (S : Int) = ((B + S : Nat) : Int) := by
  rw [u8_or _ _ (by omega) (by omega) (by omega) (by omega), Int.toNat_natCast, Int.toNat_natCast, nat_join r B S h0 h1]

/-- Bytes and an error that a call answers. -/
def RetE (w : World) (p : List UInt8 × Int) (e : Ending) (w' : World) : Prop := ∃ v, e = .returned (.tuple #[v, .int .i64 p.2]) ∧ IsB p.1 v w' ∧ Below w.heap.size w w'
theorem isB_nil (w : World) : IsB [] (.slice none 0 0) w := ⟨none, 0, rfl, by simp, by simp, by unfold maxLen; omega, Lies.nil⟩
theorem RetE.nil {w w' : World} (n : Int) (hb : Below w.heap.size w w') : RetE w ([], n) (.returned (.tuple #[.slice none 0 0, .int .i64 n])) w' := ⟨_, rfl, isB_nil _, hb⟩
theorem isB_row {w : World} {g : Nat} {t : TypeId} {l : List UInt8} {m : Nat} (h : Row w g t (l.map bv)) (hl : l.length = m) (hm : m ≤ 1000000) : IsB l (.slice (some ⟨g, 0, none⟩) m m) w := by
  subst hl
  exact ⟨_, _, rfl, by simp, Nat.le_refl _, by unfold maxLen; omega, by simpa using h.lies 0⟩
theorem isB_own {w : World} {base : Nat} {e : TypeId} {v : Value} {n : Nat} {l : List UInt8} (h : w.ownsRow base e 1 v n (l.map bv)) : IsB l v w := by
  obtain ⟨v', h1, h2, _⟩ := (ret_own (w0 := w) (l := l) h (Below.refl _ _)).isB
  injection h1 with h1
  subst h1
  exact h2
theorem isB_new (w : World) (t : TypeId) (l : List UInt8) (m : Nat) (hl : l.length = m) (hm : m ≤ 1000000) : IsB l (.slice (some ⟨w.heap.size, 0, none⟩) m m) (w.alloc (.cells (l.map bv).toArray t)) := by
  have h : Row (w.alloc (.cells (l.map bv).toArray t)) w.heap.size t (l.map bv) := heap_alloc_new w _
  exact isB_row h hl hm

theorem Tryz.infoB : (Tryz.prog.info? 5).map (fun i => (i.zero, i.size, i.bytes)) = some (some (bv 0), 1, 1) := by kernel_rfl
theorem elemB : Elem Tryz.prog 38 5 1 (bv 0) := by
  obtain ⟨i0, hi, hz0, hz1, hz2⟩ := info_parts Tryz.infoB
  exact ⟨Tryz.underlying38, rfl, i0, hi, hz0, hz1, hz2⟩
theorem textB {w : World} {l : List UInt8} {v : Value} (h : IsB l v w) : (convert 38 9 v).run Tryz.prog w = .ok (.string ⟨l.toArray⟩) w := h.text _ _ _ Tryz.underlying38 Tryz.underlying5 Tryz.underlying9
/-- Bytes in a row of the call's own. -/
def RetOwn (w : World) (l : List UInt8) (e : Ending) (w' : World) : Prop := ∃ v, e = .returned v ∧ w'.ownsRow w.heap.size 5 1 v l.length (l.map bv) ∧ Below w.heap.size w w'
theorem RetOwn.retB {w w' : World} {l : List UInt8} {e : Ending} (h : RetOwn w l e w') : RetB w l e w' := by
  obtain ⟨v, rfl, h2, h3⟩ := h
  exact ret_own h2 h3
theorem own_of_row {w : World} {g : Nat} {t : TypeId} {xs : List Value} {n base : Nat} (h : Row w g t xs) (hn : xs.length = n) (hb : base ≤ g) (hm : n ≤ 1000100) : w.ownsRow base t 1 (.slice (some ⟨g, 0, none⟩) n n) n xs :=
  ⟨by omega, .inr ⟨g, n, xs.toArray, rfl, hb, h, Nat.le_refl _, by unfold maxLen; omega, by simp [hn], by rw [Nat.mul_one]; exact List.take_of_length_le (by simp [hn])⟩⟩
theorem own_below {w w' : World} {base size n : Nat} {e : TypeId} {v : Value} {xs : List Value} (h : w.ownsRow base e size v n xs) (hb : Below w.heap.size w w') : w'.ownsRow base e size v n xs :=
  ⟨h.1, h.2.elim .inl fun ⟨g, cap, cur, hv, hg, hc, r⟩ => .inr ⟨g, cap, cur, hv, hg, (hb.block g (Array.getElem?_eq_some_iff.1 hc).1).trans hc, r⟩⟩
theorem own_base {w : World} {base base' : Nat} {e : TypeId} {v : Value} {n : Nat} {xs : List Value} (hb : base' ≤ base) (h : w.ownsRow base e 1 v n xs) : w.ownsRow base' e 1 v n xs :=
  ⟨h.1, h.2.imp id fun ⟨g, cap, cur, h1, h2, h3⟩ => ⟨g, cap, cur, h1, Nat.le_trans hb h2, h3⟩⟩
/-- Bytes in a row of the call's own. -/
def OwnB (w : World) (l : List UInt8) (v : Value) (w' : World) : Prop := ∃ n, w'.ownsRow w.heap.size 5 1 v n (l.map bv)
theorem OwnB.isB {w w' : World} {l : List UInt8} {v : Value} (h : OwnB w l v w') : IsB l v w' := h.elim fun _ h => isB_own h
theorem OwnB.nil (w w' : World) : OwnB w [] (.slice none 0 0) w' := ⟨0, World.ownsRow_nil _ _ _ _⟩
theorem OwnB.below {w w1 w2 : World} {l : List UInt8} {v : Value} (h : OwnB w l v w1) (hb : Below w1.heap.size w1 w2) : OwnB w l v w2 := h.elim fun _ h => ⟨_, own_below h hb⟩
theorem OwnB.base {w0 w w' : World} {l : List UInt8} {v : Value} (hb : w0.heap.size ≤ w.heap.size) (h : OwnB w l v w') : OwnB w0 l v w' := h.elim fun _ h => ⟨_, own_base hb h⟩
/-- Bytes in a row of the call's own, and an error. -/
def RetEO (w : World) (p : List UInt8 × Int) (e : Ending) (w' : World) : Prop := ∃ v, e = .returned (.tuple #[v, .int .i64 p.2]) ∧ w'.ownsRow w.heap.size 5 1 v p.1.length (p.1.map bv) ∧ Below w.heap.size w w'
theorem RetEO.e {w w' : World} {p : List UInt8 × Int} {e : Ending} (h : RetEO w p e w') : RetE w p e w' := by
  obtain ⟨v, h1, h2, h3⟩ := h
  exact ⟨v, h1, isB_own h2, h3⟩
theorem RetEO.nil {w w' : World} (n : Int) (hb : Below w.heap.size w w') : RetEO w ([], n) (.returned (.tuple #[.slice none 0 0, .int .i64 n])) w' := ⟨_, rfl, World.ownsRow_nil _ _ _ _, hb⟩
end Go.Proofs.YtblpkmmhmdpkjaaGreatDoor

/- Structs in blocks of their own, and results that lie in cells. Over any program. -/







namespace Go.Proofs.YtblpkmmhmdpkjaaGreatDoor

open Go.RowKit

/-- Two results: the first lies in a block (a struct), the second in a slot. -/
theorem results_row_tmp {P : Program} {fn : Func} {p u : Tmp} {ty : TypeId} (h : fn.results = #[.cell p ty, .tmp u]) (tmps : Array Value) (w : World) (g : Nat) (t : TypeId) (cs : Array Value) (fr : Nat × Nat) (d : TypeDesc) (v : Value)
    (hp : tmps.getD p undef = .pointer (some ⟨g, 0, none⟩)) (hg : w.heap[g]? = some (.cells cs t fr))
    (hu : P.underlying ty = some d) (hd : (match d with | .struct _ | .array _ _ => true | _ => false) = true) (hi : (P.info? ty).map (·.size) = some cs.size) (hv : tmps.getD u undef = v) :
    (results fn tmps).run P w = .ok (.tuple #[.agg cs, v]) w := by
  rw [results_cell_tmp h, hp, hv]
  simp [asAddr, Result.andThen, run_loadVar_row w g t ty cs fr d hg hu hd hi]
section

variable {P : Program} {o : Oper} {ρ : Operand → Value} {w : World} {R : Value → World → Prop}
/-- A load of one cell, of a value in many cells, and a slice literal of one value: as operations of a region. -/
theorem gives_load {t : TypeId} {x : Operand} {p : Addr} {v : Value} {d : TypeDesc} (ho : o.op = .load t x) (hx : ρ x = .pointer (some p)) (hu : P.underlying t = some d) (hd : (match d with | .struct _ | .array _ _ => true | _ => false) = false)
    (hc : w.cell? p = some v) (hR : R v w) : Gives P o ρ w R := by
  refine gives_of (v := v) (w' := w) ?_ hR
  have hl : (loadVar t p).run P w = .ok v w := by
    have ha : (isAgg t).run P w = .ok false w := by
      unfold isAgg
      rw [Sem.run_bind, run_underlying hu]
      cases d <;> first | rfl | cases hd
    simp [loadVar, ha, hc]
  simp [execOp, ho, hx, Instr.loadAt, Instr.sureAddr, hl]
theorem gives_load_row {t t' : TypeId} {x : Operand} {g : Nat} {cs : List Value} {d : TypeDesc} (ho : o.op = .load t x) (hx : ρ x = .pointer (some ⟨g, 0, none⟩)) (hu : P.underlying t = some d) (hd : (match d with | .struct _ | .array _ _ => true | _ => false) = true)
    (hi : (P.info? t).map (·.size) = some cs.length) (hr : Row w g t' cs) (hR : R (.agg cs.toArray) w) : Gives P o ρ w R := by
  refine gives_of (v := .agg cs.toArray) (w' := w) ?_ hR
  have hl := run_loadVar_row w g t' t cs.toArray (0, 0) d hr hu hd (by simpa using hi)
  simp [execOp, ho, hx, Instr.loadAt, Instr.sureAddr, hl]
/-- x[k] of a slice: the place. -/
theorem gives_index {t e : TypeId} {bytes : Nat} {zv : Value} (E : Elem P t e bytes zv) {x y : Operand} {ad : Addr} {n c k : Nat} (ho : o.op = .indexAddr t x y) (hx : ρ x = .slice (some ad) n c) (hy : ρ y = .int .i64 (k : Int)) (hk : k < n)
    (hR : R (.pointer (some (ad.add k))) w) : Gives P o ρ w R := by
  refine gives_of (v := .pointer (some (ad.add k))) (w' := w) ?_ hR
  have ht := E.under
  have hs := E.size_ w
  have h0 : (0 : Int) ≤ (k : Int) := by omega
  have h1 : (k : Int) < (n : Int) := by omega
  simp [execOp, ho, hx, hy, go_sem, ht, hs, h0, h1]
end

end Go.Proofs.YtblpkmmhmdpkjaaGreatDoor

/- The library's contract of math/bits.Len64, laid at this program's numbers. -/





namespace Go.Proofs

open Go.Shelf
def Tryz.lays129_ren : Go.Shelf.Ren := ⟨fun | 129 => 94 | n => n, fun | 53 => 101 | 3 => 3 | 4 => 4 | 46 => 85 | 5 => 5 | 9 => 9 | n => n, fun | n => n⟩
theorem Tryz.lays129 : Go.Proofs.Lays.n129 Tryz.prog Tryz.lays129_ren := {
  mixed := by kernel_rfl
  f129 := Tryz.func94.trans (congrArg some (by kernel_rfl))
  t3 := Tryz.underlying3
  a3 := Tryz.isAgg3
  z3 := Tryz.sizeOf3
  v3 := Tryz.zeroValue3
  t4 := Tryz.underlying4
  a4 := Tryz.isAgg4
  z4 := Tryz.sizeOf4
  v4 := Tryz.zeroValue4
  t5 := Tryz.underlying5
  a5 := Tryz.isAgg5
  z5 := Tryz.sizeOf5
  v5 := Tryz.zeroValue5
  t9 := Tryz.underlying9
  a9 := Tryz.isAgg9
  z9 := Tryz.sizeOf9
  v9 := Tryz.zeroValue9
  t46 := Tryz.underlying85
  a46 := Tryz.isAgg85
  z46 := Tryz.sizeOf85
  v46 := Tryz.zeroValue85
  t53 := Tryz.underlying101
  a53 := Tryz.isAgg101
  z53 := Tryz.sizeOf101
  v53 := Tryz.zeroValue101 }
theorem Tryz.bits_Len64 (x : Int) (w : World) (h0 : 0 ≤ x) (h1 : x ≤ 18446744073709551615) :
    Calls Tryz.prog 94 #[.int .u64 x] w fun e w' => e = .returned (.int .i64 (Lib.bitLen x.toNat)) ∧ w' = w := Any.bits_Len64 Tryz.lays129 x w h0 h1
end Go.Proofs

/- Package-level tables: from what a row lists of a variable to the block in which it lies. Over any program. -/















namespace Go.Proofs.YtblpkmmhmdpkjaaGreatDoor

open Go.RowKit Go.ChangeShapes Go.WideShapes Go.ChangeAt

/-- A table of whole numbers that a row lists lies as it is listed. -/
theorem row_of_laid {P : Program} {W : World} {n : String} {g m : Nat} {t e : TypeId} {k : IntKind} {zs : List Int} (hg : P.globalNamed n = some g) (ht : (P.globals[g]?).map (·.type) = some t)
    (hu : P.underlying t = some (.array m e)) (he : P.underlying e = some (.int k)) (hc : P.cellsOf e = 1) (hct : P.cellsOf t = m) (hm : 0 < m)
    (h : laidMet P [(n, .agg (zs.map fun z => .lit (.int k z)))] W) : ∃ t', Row W g t' (zs.map (Value.int k)) := by
  obtain ⟨ps, ⟨g0, t0, cs, fuel, p, q, hg0, ht0, hv, hd, hq, hps⟩, _, hrow⟩ := h
  obtain rfl := Option.some.inj (hg.symm.trans hg0)
  obtain rfl := Option.some.inj (ht.symm.trans ht0)
  obtain ⟨xs, f, rfl, hx, hlen, hn, hel⟩ := DataW.trod_array hu hd
  simp only [Prod.mk.injEq, DataW.agg.injEq] at hx
  have hlz : zs.length = m := by have := congrArg List.length hx.1; simp at this; omega
  have hcs : cs.toList = zs.map (Value.int k) := by
    refine List.ext_getElem? fun i => ?_
    by_cases hi : i < m
    · have h1 := hel i hi
      have hxi : i < xs.length := by omega
      have hzi : i < zs.length := by omega
      have hci : i < cs.toList.length := by omega
      rw [List.getElem?_eq_getElem hxi, hc, Nat.mul_one, List.drop_eq_getElem_cons hci, List.take_succ_cons, List.take_zero] at h1
      obtain ⟨z, e1, e2, _⟩ := DataW.trod_int he h1
      have h2 : (zs.map fun z => (DataW.lit (.int k z) : DataW Unit))[i]? = (xs.map (·.1))[i]? := by rw [hx.1]
      rw [List.getElem?_map, List.getElem?_map, List.getElem?_eq_getElem hxi, List.getElem?_eq_getElem hzi] at h2
      simp only [Option.map_some, Option.some.injEq, e2, DataW.lit.injEq, Lit.int.injEq, true_and] at h2
      simp only [List.cons.injEq, and_true] at e1
      rw [List.getElem?_eq_getElem hci, e1, List.getElem?_map, List.getElem?_eq_getElem hzi, ← h2]
      rfl
    · rw [List.getElem?_eq_none (by omega), List.getElem?_eq_none (by simp; omega)]
  have hin : MemPlace.cell g 0 ∈ ps := by
    rw [hps]
    refine List.mem_append_left _ (List.mem_append_left _ ?_)
    have hs : 0 < cs.size := by have : cs.toList.length = cs.size := rfl; omega
    exact MemPlace.mem_row.2 ⟨0, hs, by simp⟩
  obtain ⟨⟨c, t', hb⟩, _⟩ := hrow g 0 hin
  refine ⟨t', ?_⟩
  unfold Row
  rw [hb]
  simp only [World.var?, hg, Option.bind_some, hb, Option.some.injEq] at hv
  subst hv
  obtain ⟨l⟩ := c
  simp only at hcs
  rw [hcs]
theorem run_index_array {P : Program} (w : World) (t e : TypeId) (n : Nat) (cs : List Value) (k : IntKind) (i : Nat) (h : P.underlying t = some (.array n e)) (hn : i < n) (hs : ∀ w, (sizeOf e).run P w = .ok 1 w) (ha : ∀ w, (isAgg e).run P w = .ok false w) (v : Value) (hv : cs[i]? = some v) :
    (Instr.index t (.agg cs.toArray) (.int k (i : Int))).run P w = .ok v w := by
  simp [Instr.index, run_underlying h, asIntOf, hn, go_sem, hs, ha, hv]
end Go.Proofs.YtblpkmmhmdpkjaaGreatDoor

/- The plain mathematics of widths. -/





namespace Go.Proofs.YtblpkmmhmdpkjaaGreatDoor

def wtab : List Int := [1, 2, 3, 4, 5, 6, 7, 8, 9, 10, 11, 12, 13, 14, 15, 16, 17, 18, 19, 20, 21, 22, 23, 24, 26, 28, 30, 32, 40, 48, 56, 64]
/-- The width at a place of the table. -/
def wat (i : Nat) : Int := wtab.getD i 0
/-- P2.1: a code's width, a width's code, the closest width. -/
def wof (c : Int) : Int := if 0 ≤ c ∧ c < 32 then wat c.toNat else 0
def wcode (x : Int) : Int := match (List.range 32).find? fun i => wat i == x with | some i => (i : Int) | none => -1
def wclosest (b : Int) : Int := match (List.range 32).find? fun i => decide (b ≤ wat i) with | some i => wat i | none => 0
theorem wof_in {c : Nat} (h : c < 32) : wof (c : Int) = wat c := if_pos (by omega)
theorem wof_out {c : Int} (h : c < 0 ∨ 32 ≤ c) : wof c = 0 := if_neg (by omega)
theorem wat_get {i : Nat} (h : i < 32) : wtab[i]? = some (wat i) := by
  have hl : wtab.length = 32 := rfl
  unfold wat
  rw [List.getD_eq_getElem?_getD, List.getElem?_eq_getElem (by omega)]; rfl
theorem wat_bd (i : Nat) : 0 ≤ wat i ∧ wat i ≤ 64 := by
  by_cases h : i < 32
  · exact (show ∀ i : Fin 32, 0 ≤ wat i ∧ wat i ≤ 64 by decide +kernel) ⟨i, h⟩
  · unfold wat
    rw [List.getD_eq_getElem?_getD, List.getElem?_eq_none (by show 32 ≤ i; omega)]
    simp
theorem wof_bd (c : Int) : 0 ≤ wof c ∧ wof c ≤ 64 := by
  unfold wof; split
  · exact wat_bd _
  · omega
theorem wcode_at {x : Int} {k : Nat} (hk : k < 32) (h : wat k = x) (hb : ∀ j, j < k → wat j ≠ x) : wcode x = k := by
  have e : (List.range 32).find? (fun i => wat i == x) = some k := List.find?_range_eq_some.2 ⟨by simpa using h, by simpa using hk, fun j hj => by simpa using hb j hj⟩
  unfold wcode; rw [e]
theorem wcode_none {x : Int} (hb : ∀ j, j < 32 → wat j ≠ x) : wcode x = -1 := by
  have e : (List.range 32).find? (fun i => wat i == x) = none := by
    rw [List.find?_eq_none]; intro j hj; simpa using hb j (by simpa using hj)
  unfold wcode; rw [e]
theorem wclosest_at {b : Int} {k : Nat} (hk : k < 32) (h : b ≤ wat k) (hb : ∀ j, j < k → wat j < b) : wclosest b = wat k := by
  have e : (List.range 32).find? (fun i => decide (b ≤ wat i)) = some k := List.find?_range_eq_some.2 ⟨by simpa using h, by simpa using hk, fun j hj => by simpa using hb j hj⟩
  unfold wclosest; rw [e]
theorem wclosest_none {b : Int} (hb : ∀ j, j < 32 → wat j < b) : wclosest b = 0 := by
  have e : (List.range 32).find? (fun i => decide (b ≤ wat i)) = none := by
    rw [List.find?_eq_none]; intro j hj; simpa using hb j (by simpa using hj)
  unfold wclosest; rw [e]
theorem wclosest_bd (b : Int) : 0 ≤ wclosest b ∧ wclosest b ≤ 64 := by
  unfold wclosest; split
  · exact wat_bd _
  · omega
theorem wcode_bd (x : Int) : -1 ≤ wcode x ∧ wcode x ≤ 31 := by
  unfold wcode
  split
  · rename_i i h
    have h1 : i ∈ List.range 32 := List.mem_of_find?_eq_some h
    rw [List.mem_range] at h1
    omega
  · omega
/-- P2.3. -/
theorem wback : ∀ x : Fin 32, wcode (wof (x.val : Int)) = x.val ∧ wclosest (wof (x.val : Int)) = wof (x.val : Int) ∧ 1 ≤ wof (x.val : Int) := by decide +kernel
theorem wroom : ∀ n : Fin 65, 1 ≤ wclosest (n.val : Int) ∧ (n.val : Int) ≤ wclosest (n.val : Int) ∧ 0 ≤ wcode (wclosest (n.val : Int)) ∧ (0 < wcode (wclosest (n.val : Int)) → wof (wcode (wclosest (n.val : Int)) - 1) < n.val) ∧
    (wcode (wclosest (n.val : Int)) = 0 → n.val ≤ 1) := by decide +kernel
/-- How many bits a number needs. -/
def wbits (x : Nat) : Nat := Lib.bitLen x
theorem wbits_le {x k : Nat} (hk : k ≤ 64) (h : x < 2 ^ k) : wbits x ≤ k := Lib.bitLen_le x k hk h
theorem wbits_bounds {x : Nat} (h : x < 2 ^ 64) (h0 : x ≠ 0) : 1 ≤ wbits x ∧ 2 ^ (wbits x - 1) ≤ x ∧ x < 2 ^ wbits x := Lib.bitLenAux_bounds 64 x h h0
theorem wbits_lt {x : Nat} (h : x < 2 ^ 64) : x < 2 ^ wbits x := by
  by_cases h0 : x = 0
  · subst h0; decide
  · exact (wbits_bounds h h0).2.2
theorem wbits_64 {x : Nat} (h : x < 2 ^ 64) : wbits x ≤ 64 := wbits_le (by omega) h
theorem wbits_mono {x y : Nat} (hy : y < 2 ^ 64) (h : x ≤ y) : wbits x ≤ wbits y := wbits_le (wbits_64 hy) (Nat.lt_of_le_of_lt h (wbits_lt hy))
theorem wbits_iff {x k : Nat} (hx : x < 2 ^ 64) (hk : k ≤ 64) : wbits x ≤ k ↔ x < 2 ^ k :=
  ⟨fun h => Nat.lt_of_lt_of_le (wbits_lt hx) (Nat.pow_le_pow_right (by omega) h), wbits_le hk⟩
theorem wbits_or {x y : Nat} (hx : x < 2 ^ 64) (hy : y < 2 ^ 64) : wbits (x ||| y) = max (wbits x) (wbits y) := by
  have ho : x ||| y < 2 ^ 64 := Nat.or_lt_two_pow hx hy
  have h1 : wbits (x ||| y) ≤ max (wbits x) (wbits y) := by
    refine wbits_le (by have := wbits_64 hx; have := wbits_64 hy; omega) (Nat.or_lt_two_pow ?_ ?_)
    · exact Nat.lt_of_lt_of_le (wbits_lt hx) (Nat.pow_le_pow_right (by omega) (by omega))
    · exact Nat.lt_of_lt_of_le (wbits_lt hy) (Nat.pow_le_pow_right (by omega) (by omega))
  have h2 := wbits_mono ho (Nat.left_le_or (n := x) (m := y))
  have h3 := wbits_mono ho (Nat.right_le_or (n := x) (m := y))
  omega
theorem wbits_max {x y : Nat} (hx : x < 2 ^ 64) (hy : y < 2 ^ 64) : wbits (max x y) = max (wbits x) (wbits y) := by
  rcases Nat.le_total x y with h | h
  · have := wbits_mono hy h; rw [Nat.max_eq_right h]; omega
  · have := wbits_mono hx h; rw [Nat.max_eq_left h]; omega
/-- The most bits of several numbers. -/
def wmost (l : List Nat) : Nat := l.foldl (fun n x => max n (wbits x)) 0
def wall (l : List Nat) : Nat := l.foldl (fun n x => n ||| x) 0
def wtop (l : List Nat) : Nat := l.foldl (fun n x => max n x) 0
theorem wall_snoc (l : List Nat) (x : Nat) : wall (l ++ [x]) = wall l ||| x := by simp [wall]
theorem wall_lt {l : List Nat} (h : ∀ x ∈ l, x < 2 ^ 64) : wall l < 2 ^ 64 := by
  suffices ∀ (l : List Nat) (a : Nat), a < 2 ^ 64 → (∀ x ∈ l, x < 2 ^ 64) → l.foldl (fun n x => n ||| x) a < 2 ^ 64 from this l 0 (by decide) h
  intro l
  induction l with
  | nil => exact fun a ha _ => ha
  | cons x l ih => exact fun a ha hl => ih _ (Nat.or_lt_two_pow ha (hl x (by simp))) fun y hy => hl y (by simp [hy])
theorem wall_bits {l : List Nat} (h : ∀ x ∈ l, x < 2 ^ 64) : wbits (wall l) = wmost l := by
  suffices ∀ (l : List Nat) (a : Nat), a < 2 ^ 64 → (∀ x ∈ l, x < 2 ^ 64) → wbits (l.foldl (fun n x => n ||| x) a) = l.foldl (fun n x => max n (wbits x)) (wbits a) from this l 0 (by decide) h
  intro l
  induction l with
  | nil => exact fun a ha _ => rfl
  | cons x l ih => exact fun a ha hl => by rw [List.foldl_cons, List.foldl_cons, ih _ (Nat.or_lt_two_pow ha (hl x (by simp))) fun y hy => hl y (by simp [hy]), wbits_or ha (hl x (by simp))]
theorem wtop_lt {l : List Nat} (h : ∀ x ∈ l, x < 2 ^ 64) : wtop l < 2 ^ 64 := by
  suffices ∀ (l : List Nat) (a : Nat), a < 2 ^ 64 → (∀ x ∈ l, x < 2 ^ 64) → l.foldl (fun n x => max n x) a < 2 ^ 64 from this l 0 (by decide) h
  intro l
  induction l with
  | nil => exact fun a ha _ => ha
  | cons x l ih => exact fun a ha hl => ih _ (Nat.max_lt.2 ⟨ha, hl x (by simp)⟩) fun y hy => hl y (by simp [hy])
theorem wtop_bits {l : List Nat} (h : ∀ x ∈ l, x < 2 ^ 64) : wbits (wtop l) = wmost l := by
  suffices ∀ (l : List Nat) (a : Nat), a < 2 ^ 64 → (∀ x ∈ l, x < 2 ^ 64) → wbits (l.foldl (fun n x => max n x) a) = l.foldl (fun n x => max n (wbits x)) (wbits a) from this l 0 (by decide) h
  intro l
  induction l with
  | nil => exact fun a ha _ => rfl
  | cons x l ih => exact fun a ha hl => by rw [List.foldl_cons, List.foldl_cons, ih _ (Nat.max_lt.2 ⟨ha, hl x (by simp)⟩) fun y hy => hl y (by simp [hy]), wbits_max ha (hl x (by simp))]
theorem wmost_64 {l : List Nat} (h : ∀ x ∈ l, x < 2 ^ 64) : wmost l ≤ 64 := by rw [← wall_bits h]; exact wbits_64 (wall_lt h)
end Go.Proofs.YtblpkmmhmdpkjaaGreatDoor

/- Contracts of widths' functions, and of the reference's. -/









namespace Go.Proofs.YtblpkmmhmdpkjaaGreatDoor

open Go.RowKit

/-- The table lies where it was laid. -/
def WTab (w : World) : Prop := ∃ t, Row w 1 t (wtab.map (Value.int .i64))
theorem WTab.below {B : Nat} {w w' : World} (h : WTab w) (hb : Below B w w') (hB : 1 < B) : WTab w' := h.elim fun t h => ⟨t, h.below hb hB⟩
theorem WTab.lt {w : World} (h : WTab w) : 1 < w.heap.size := h.elim fun _ h => h.lt
theorem WTab.cell {w : World} (h : WTab w) {i : Nat} (hi : i < 32) : w.cell? ⟨1, i, none⟩ = some (.int .i64 (wat i)) := by
  obtain ⟨t, h⟩ := h
  rw [h.cell, List.getElem?_map, wat_get hi]; rfl

set_option maxRecDepth 100000 in
theorem of_any (c : Int) (w : World) (ht : WTab w) (h0 : -9223372036854775808 ≤ c) (h1 : c ≤ 9223372036854775807) :
    Calls Tryz.prog 145 #[.int .i64 c] w fun e w' => e = .returned (.int .i64 (wof c)) ∧ w = w' := by
  rcases (by omega : c < 0 ∨ 32 ≤ c ∨ (0 ≤ c ∧ c < 32)) with h | h | h
  · have e := Lib.hid (wof_out (c := c) (by omega))
    go_enter Tryz.func145, Tryz.ntmps145
    go_wp2
    go_ret
    exact ⟨ret_int e.out.symm, rfl⟩
  · have e := Lib.hid (wof_out (c := c) (by omega))
    have h2 : decide (c < 0) = false := by simp; omega
    go_enter Tryz.func145, Tryz.ntmps145
    go_wp2
    go_ret
    exact ⟨ret_int e.out.symm, rfl⟩
  · obtain ⟨n, rfl⟩ : ∃ n : Nat, c = n := ⟨c.toNat, by omega⟩
    have hn : n < 32 := by omega
    have e := Lib.hid (wof_in hn)
    have hc := ht.cell hn
    clear h
    go_enter Tryz.func145, Tryz.ntmps145
    go_wp2
    go_ret
    exact ⟨ret_int e.out.symm, rfl⟩
def codeRel (x : Int) (i : Value) : Prop := ∃ k : Nat, i = .int .i64 k ∧ k ≤ 32 ∧ ∀ j, j < k → wat j ≠ x
set_option maxRecDepth 100000 in
theorem code_any (x : Int) (w : World) (ht : WTab w) :
    Calls Tryz.prog 142 #[.int .i64 x] w fun e w' => e = .returned (.int .i64 (wcode x)) ∧ w = w' := by
  have hi := fun (k : Nat) (hk : k < 32) => run_index_array (P := Tryz.prog) w 195 3 32 (wtab.map (Value.int .i64)) .i64 k Tryz.underlying195 hk (fun _ => by kernel_rfl) (fun _ => by kernel_rfl) (.int .i64 (wat k)) (by rw [List.getElem?_map, wat_get hk]; rfl)
  have HI := Lib.hid hi
  clear hi
  obtain ⟨t, hrow⟩ := ht
  have hblk : w.heap[1]? = some (.cells (wtab.map (Value.int .i64)).toArray t (0, 0)) := hrow
  clear hrow
  generalize hcs : (wtab.map (Value.int .i64)).toArray = cs at HI hblk
  have hsz : cs.size = 32 := by rw [← hcs]; rfl
  have HR := Lib.hid hblk
  have HZ := Lib.hid hsz
  clear hcs hsz hblk
  go_enter Tryz.func142, Tryz.ntmps142
  go_wp2_with (refine wpList_load_row rfl 195 (.global 1) rfl 1 rfl t cs (0, 0) _ HR.out Tryz.underlying195 rfl (by rw [HZ.out]; kernel_rfl) ?_)
  go_loop [6] (codeRel x) (fun i => 32 - (intOf i).toNat)
  case atStart => exact ⟨0, rfl, by omega, fun j hj => by omega⟩
  case round =>
    obtain ⟨k, rfl, hk, hb⟩ := hrel
    have HB := Lib.hid hb
    clear hb
    by_cases hlt : k < 32
    · have hx := HI.out k hlt
      have hw := wat_bd k
      by_cases hq : wat k = x
      · have HQ := Lib.hid hq
        have hq' : (wat k == x) = true := by simpa using hq
        clear hq
        go_wp2
        go_ret
        exact ⟨ret_int (wcode_at hlt HQ.out HB.out).symm, rfl⟩
      · have HQ : Hid (wat k ≠ x) := Lib.hid (by omega)
        have hq' : (wat k == x) = false := by simpa using hq
        clear hq
        go_wp2
        go_round
        case rel => exact ⟨k + 1, by go_num, by omega, fun j hj => by rcases (by omega : j < k ∨ j = k) with h | rfl; exact HB.out j h; exact HQ.out⟩
        case measure => simp [intOf]; omega
    · obtain rfl : k = 32 := by omega
      go_wp2
      go_ret
      exact ⟨ret_int (wcode_none HB.out).symm, rfl⟩
def closestRel (x : Int) (i : Value) : Prop := ∃ k : Nat, i = .int .i64 k ∧ k ≤ 32 ∧ ∀ j, j < k → wat j < x
set_option maxRecDepth 100000 in
theorem closest_any (x : Int) (w : World) (ht : WTab w) :
    Calls Tryz.prog 138 #[.int .i64 x] w fun e w' => e = .returned (.int .i64 (wclosest x)) ∧ w = w' := by
  have hi := fun (k : Nat) (hk : k < 32) => run_index_array (P := Tryz.prog) w 195 3 32 (wtab.map (Value.int .i64)) .i64 k Tryz.underlying195 hk (fun _ => by kernel_rfl) (fun _ => by kernel_rfl) (.int .i64 (wat k)) (by rw [List.getElem?_map, wat_get hk]; rfl)
  have HI := Lib.hid hi
  clear hi
  obtain ⟨t, hrow⟩ := ht
  have hblk : w.heap[1]? = some (.cells (wtab.map (Value.int .i64)).toArray t (0, 0)) := hrow
  clear hrow
  generalize hcs : (wtab.map (Value.int .i64)).toArray = cs at HI hblk
  have hsz : cs.size = 32 := by rw [← hcs]; rfl
  have HR := Lib.hid hblk
  have HZ := Lib.hid hsz
  clear hcs hsz hblk
  go_enter Tryz.func138, Tryz.ntmps138
  go_wp2_with (refine wpList_load_row rfl 195 (.global 1) rfl 1 rfl t cs (0, 0) _ HR.out Tryz.underlying195 rfl (by rw [HZ.out]; kernel_rfl) ?_)
  go_loop [6] (closestRel x) (fun i => 32 - (intOf i).toNat)
  case atStart => exact ⟨0, rfl, by omega, fun j hj => by omega⟩
  case round =>
    obtain ⟨k, rfl, hk, hb⟩ := hrel
    have HB := Lib.hid hb
    clear hb
    by_cases hlt : k < 32
    · have hx := HI.out k hlt
      have hw := wat_bd k
      by_cases hq : x ≤ wat k
      · have HQ := Lib.hid hq
        have hq' : decide (x ≤ wat k) = true := by simpa using hq
        clear hq
        go_wp2
        go_ret
        exact ⟨ret_int (wclosest_at hlt HQ.out HB.out).symm, rfl⟩
      · have HQ : Hid (wat k < x) := Lib.hid (by omega)
        have hq' : decide (x ≤ wat k) = false := by simpa using hq
        clear hq
        go_wp2
        go_round
        case rel => exact ⟨k + 1, by go_num, by omega, fun j hj => by rcases (by omega : j < k ∨ j = k) with h | rfl; exact HB.out j h; exact HQ.out⟩
        case measure => simp [intOf]; omega
    · obtain rfl : k = 32 := by omega
      go_wp2
      go_ret
      exact ⟨ret_int (wclosest_none HB.out).symm, rfl⟩
end Go.Proofs.YtblpkmmhmdpkjaaGreatDoor

/- Contracts of widths.Bits and Most, and of the reference's. -/



namespace Go.Proofs.YtblpkmmhmdpkjaaGreatDoor

open Go.RowKit

theorem bits_any (x : Nat) (w : World) (h : x < 2 ^ 64) :
    Calls Tryz.prog 171 #[.int .u64 (x : Int)] w fun e w' => e = .returned (.int .i64 (wbits x : Int)) ∧ w = w' := by
  have hc := Tryz.bits_Len64 (x : Int)
  rw [Int.toNat_natCast] at hc
  have HC := Lib.hid hc
  clear hc
  have H := Lib.hid h
  clear h
  go_enter Tryz.func171, Tryz.ntmps171
  go_wp2_with (go_at_call 94; refine (HC.out _ (by omega) (by have := H.out; omega)).mono ?_; rintro e w' ⟨rfl, rfl⟩)
  go_ret
  exact ⟨rfl, rfl⟩
def MostRel (l : List Nat) (a i : Value) : Prop := ∃ k : Nat, k ≤ l.length ∧ i = .int .i64 k ∧ a = .int .u64 (wall (l.take k) : Nat)
theorem most_any (A : Option Addr) (n c : Nat) (l : List Nat) (w : World) (hA : A = none → n = 0) (hn : l.length = n) (hc : n ≤ c) (hm : n ≤ 1000000) (hl : Lies w A (l.map uv)) (h : ∀ x ∈ l, x < 2 ^ 64) :
    Calls Tryz.prog 139 #[.slice A n c] w fun e w' => e = .returned (.int .i64 (wmost l : Int)) ∧ w = w' := by
  have H := Lib.hid h
  have HN := Lib.hid hn
  clear h hn
  go_enter Tryz.func139, Tryz.ntmps139
  go_wp2
  go_loop [3, 8] (MostRel l) (fun _ i => n - (intOf i).toNat)
  case atStart => exact ⟨0, by omega, rfl, rfl⟩
  case round =>
    obtain ⟨k, hk, rfl, rfl⟩ := hrel
    have hk' : k ≤ n := by have := HN.out; omega
    have ht := wall_lt (l := l.take k) fun x hx => H.out x (List.mem_of_mem_take hx)
    by_cases hlt : k < n
    · have hkl : k < l.length := by have := HN.out; omega
      obtain ⟨ad, rfl, _, hcell⟩ := hl.cell (k := k) (by simpa using hkl)
      obtain ⟨x, hx⟩ : ∃ x : Nat, x = l[k] := ⟨_, rfl⟩
      have hcx : w.cell? (ad.add k) = some (.int .u64 (x : Int)) := by rw [hcell, List.getElem_map, hx]; rfl
      have hx64 : x < 2 ^ 64 := by rw [hx]; exact H.out _ (List.getElem_mem hkl)
      have hs : wall (l.take (k + 1)) = wall (l.take k) ||| x := by rw [List.take_succ_eq_append_getElem hkl, wall_snoc, hx]
      have ho := u64_or (wall (l.take k) : Int) (x : Int) (by omega) (by omega) (by omega) (by omega)
      rw [Int.toNat_natCast, Int.toNat_natCast] at ho
      have HS := Lib.hid hs
      have HX := Lib.hid hx
      clear hs hx hcell
      generalize wall (l.take k) = y at *
      have HT := Lib.hid ht
      have HX64 := Lib.hid hx64
      clear ht hx64
      go_wp2
      go_round
      case rel => exact ⟨k + 1, by omega, by go_num, by rw [HS.out]⟩
      case measure => simp [intOf]; omega
    · obtain rfl : k = n := by omega
      have hb := bits_any (wall (l.take k)) w ht
      rw [wall_bits (fun x hx => H.out x (List.mem_of_mem_take hx)), List.take_of_length_le (by have := HN.out; omega)] at hb
      have HB := Lib.hid hb
      clear hb ht
      rw [List.take_of_length_le (by have := HN.out; omega)] at *
      go_wp2_with (go_at_call 171; refine HB.out.mono ?_; rintro e w' ⟨rfl, rfl⟩)
      go_ret
      exact ⟨rfl, rfl⟩
end Go.Proofs.YtblpkmmhmdpkjaaGreatDoor

/- Bits packed one behind the other, as plain mathematics: a row of bytes, and a row of numbers of one width, each as one number. -/

namespace Go.Proofs.YtblpkmmhmdpkjaaGreatDoor

/-- Bytes as one number, the first one highest. -/
def bval : List UInt8 → Nat
  | [] => 0
  | b :: r => b.toNat * 256 ^ r.length + bval r
/-- Numbers of w bits as one number, the first one highest. -/
def pval (w : Nat) : List Nat → Nat
  | [] => 0
  | x :: r => x * 2 ^ (w * r.length) + pval w r
/-- How many bytes n numbers of w bits need. -/
def bsize (n w : Nat) : Nat := (n * w + 7) / 8
/-- So many bytes that are a number. -/
def be : Nat → Nat → List UInt8
  | 0, _ => []
  | m + 1, N => UInt8.ofNat (N / 256 ^ m % 256) :: be m N

theorem p256 (k : Nat) : 256 ^ k = 2 ^ (8 * k) := by rw [Nat.pow_mul]
theorem be_len (m N : Nat) : (be m N).length = m := by
  induction m with
  | zero => rfl
  | succ m ih => simp [be, ih]
theorem bval_be (m N : Nat) : bval (be m N) = N % 256 ^ m := by
  induction m with
  | zero => simp [be, bval]; omega
  | succ m ih =>
    rw [be, bval, be_len, ih]
    simp only [UInt8.toNat_ofNat', Nat.reducePow, Nat.mod_mod]
    rw [Nat.pow_succ, Nat.mod_mul, Nat.mul_comm]
    omega
theorem bval_lt (l : List UInt8) : bval l < 256 ^ l.length := by
  induction l with
  | nil => simp [bval]
  | cons b r ih =>
    have hb := b.toNat_lt
    have h1 : (b.toNat + 1) * 256 ^ r.length ≤ 256 * 256 ^ r.length := Nat.mul_le_mul_right _ (by omega)
    rw [bval, List.length_cons, Nat.pow_succ]
    rw [Nat.add_mul] at h1
    omega
theorem bval_inj : ∀ (l m : List UInt8), l.length = m.length → bval l = bval m → l = m
  | [], [], _, _ => rfl
  | [], _ :: _, h, _ => by simp at h
  | _ :: _, [], h, _ => by simp at h
  | b :: r, c :: s, h, e => by
    have hl : r.length = s.length := by simpa using h
    have h1 := bval_lt r
    have h2 := bval_lt s
    rw [bval, bval, hl] at e
    rw [hl] at h1
    have hp : 0 < 256 ^ s.length := Nat.pow_pos (by omega)
    have hd : (b.toNat * 256 ^ s.length + bval r) / 256 ^ s.length = b.toNat := by
      rw [Nat.mul_comm, Nat.mul_add_div hp, Nat.div_eq_of_lt h1]; omega
    have hd2 : (c.toNat * 256 ^ s.length + bval s) / 256 ^ s.length = c.toNat := by
      rw [Nat.mul_comm, Nat.mul_add_div hp, Nat.div_eq_of_lt h2]; omega
    have hbc : b.toNat = c.toNat := by rw [← hd, ← hd2, e]
    have hbe : b = c := UInt8.toNat_inj.1 hbc
    subst hbe
    rw [bval_inj r s hl (by omega)]
theorem eq_be {l : List UInt8} {m N : Nat} (hl : l.length = m) (h : bval l = N) : l = be m N := by
  refine bval_inj _ _ (by rw [be_len, hl]) ?_
  rw [bval_be, ← h, Nat.mod_eq_of_lt]
  rw [← hl]
  exact bval_lt l
theorem bval_zeros (m : Nat) : bval (List.replicate m 0) = 0 := by
  induction m with
  | zero => rfl
  | succ m ih => rw [List.replicate_succ, bval, ih]; simp
theorem bval_get : ∀ (l : List UInt8) (k : Nat) (h : k < l.length), l[k].toNat = bval l / 256 ^ (l.length - 1 - k) % 256
  | b :: r, 0, _ => by
    have hp : 0 < 256 ^ r.length := Nat.pow_pos (by omega)
    simp only [List.getElem_cons_zero, bval, List.length_cons, Nat.add_sub_cancel, Nat.sub_zero]
    rw [Nat.mul_comm, Nat.mul_add_div hp, Nat.div_eq_of_lt (bval_lt r), Nat.add_zero, Nat.mod_eq_of_lt b.toNat_lt]
  | b :: r, k + 1, h => by
    have hk : k < r.length := by simpa using h
    have ih := bval_get r k hk
    simp only [List.getElem_cons_succ, bval, List.length_cons, Nat.add_sub_cancel]
    rw [ih]
    have he : r.length - (k + 1) = r.length - 1 - k := by omega
    rw [he]
    have hs : 256 ^ r.length = 256 ^ (r.length - 1 - k) * (256 ^ k * 256) := by
      rw [← Nat.pow_succ, ← Nat.pow_add]; congr 1; omega
    have hp : 0 < 256 ^ (r.length - 1 - k) := Nat.pow_pos (by omega)
    rw [hs, show b.toNat * (256 ^ (r.length - 1 - k) * (256 ^ k * 256)) = 256 ^ (r.length - 1 - k) * (b.toNat * 256 ^ k * 256) by
      rw [Nat.mul_left_comm, Nat.mul_assoc], Nat.mul_add_div hp]
    omega
theorem bval_set : ∀ (l : List UInt8) (k : Nat) (c : UInt8) (h : k < l.length), bval (l.set k c) + l[k].toNat * 256 ^ (l.length - 1 - k) = bval l + c.toNat * 256 ^ (l.length - 1 - k)
  | b :: r, 0, c, _ => by
    simp only [List.getElem_cons_zero, List.set_cons_zero, bval, List.length_cons, Nat.add_sub_cancel, Nat.sub_zero]
    omega
  | b :: r, k + 1, c, h => by
    have hk : k < r.length := by simpa using h
    have ih := bval_set r k c hk
    simp only [List.getElem_cons_succ, List.set_cons_succ, bval, List.length_cons, Nat.add_sub_cancel, List.length_set]
    have he : r.length - (k + 1) = r.length - 1 - k := by omega
    rw [he]
    omega

/-- What one piece of n bits does: the byte that it is laid into has room for it, and the row has it behind what was laid before. -/
theorem laid_step {out : List UInt8} {m at_ n V piece : Nat} (hm : out.length = m) (hn0 : 0 < n) (hn : n ≤ 8 - at_ % 8) (hat : at_ + n ≤ 8 * m) (hp : piece < 2 ^ n) (hv : bval out = V * 2 ^ (8 * m - at_)) :
    ∃ h : at_ / 8 < out.length, out[at_ / 8].toNat % 2 ^ (8 - at_ % 8) = 0 ∧ out[at_ / 8].toNat + piece * 2 ^ (8 - at_ % 8 - n) < 256 ∧
      piece * 2 ^ (8 - at_ % 8 - n) < 2 ^ (8 - at_ % 8) ∧
      bval (out.set (at_ / 8) (UInt8.ofNat (out[at_ / 8].toNat + piece * 2 ^ (8 - at_ % 8 - n)))) = (V * 2 ^ n + piece) * 2 ^ (8 * m - (at_ + n)) := by
  have hk : at_ / 8 < out.length := by omega
  refine ⟨hk, ?_⟩
  have hg := bval_get out (at_ / 8) hk
  have hs := bval_set out (at_ / 8) (UInt8.ofNat (out[at_ / 8].toNat + piece * 2 ^ (8 - at_ % 8 - n))) hk
  rw [hm] at hg hs
  obtain ⟨r, hr⟩ : ∃ r, r = 8 - at_ % 8 := ⟨_, rfl⟩
  rw [← hr] at hn hs ⊢
  have hr8 : r ≤ 8 := by omega
  have h1 : 8 * m - at_ = 8 * (m - 1 - at_ / 8) + r := by omega
  have h2 : 8 * m - (at_ + n) = 8 * (m - 1 - at_ / 8) + (r - n) := by omega
  have hpp : 0 < 256 ^ (m - 1 - at_ / 8) := Nat.pow_pos (by omega)
  rw [hv, h1, Nat.pow_add, ← p256, show V * (256 ^ (m - 1 - at_ / 8) * 2 ^ r) = 256 ^ (m - 1 - at_ / 8) * (V * 2 ^ r) by rw [Nat.mul_left_comm], Nat.mul_div_cancel_left _ hpp] at hg
  have h256 : 256 = 2 ^ (8 - r) * 2 ^ r := by rw [← Nat.pow_add, show 8 - r + r = 8 by omega]
  have hb : out[at_ / 8].toNat = V % 2 ^ (8 - r) * 2 ^ r := by rw [hg]; conv => lhs; rw [h256, Nat.mul_mod_mul_right]
  have hpc : piece * 2 ^ (r - n) < 2 ^ r := by
    have h3 : 2 ^ r = 2 ^ n * 2 ^ (r - n) := by rw [← Nat.pow_add]; congr 1; omega
    rw [h3]
    exact Nat.mul_lt_mul_of_pos_right hp (Nat.pow_pos (by omega))
  have hlt : out[at_ / 8].toNat + piece * 2 ^ (r - n) < 256 := by
    have h4 : V % 2 ^ (8 - r) < 2 ^ (8 - r) := Nat.mod_lt _ (Nat.pow_pos (by omega))
    have h5 : (V % 2 ^ (8 - r) + 1) * 2 ^ r ≤ 2 ^ (8 - r) * 2 ^ r := Nat.mul_le_mul_right _ h4
    rw [← h256, Nat.add_mul] at h5
    rw [hb]
    omega
  refine ⟨by rw [hb]; exact Nat.mul_mod_left _ _, hlt, hpc, ?_⟩
  have hc : (UInt8.ofNat (out[at_ / 8].toNat + piece * 2 ^ (r - n))).toNat = out[at_ / 8].toNat + piece * 2 ^ (r - n) := by
    simp only [UInt8.toNat_ofNat', Nat.reducePow]
    exact Nat.mod_eq_of_lt hlt
  rw [hc, Nat.add_mul, hv] at hs
  rw [h1] at hs
  rw [h2]
  have h6 : V * 2 ^ (8 * (m - 1 - at_ / 8) + r) = V * 2 ^ n * 2 ^ (8 * (m - 1 - at_ / 8) + (r - n)) := by
    rw [Nat.mul_assoc, ← Nat.pow_add]; congr 2; omega
  have h7 : piece * 2 ^ (r - n) * 256 ^ (m - 1 - at_ / 8) = piece * 2 ^ (8 * (m - 1 - at_ / 8) + (r - n)) := by
    rw [p256, Nat.mul_assoc, ← Nat.pow_add]; congr 2; omega
  rw [Nat.add_mul, ← h6, ← h7]
  omega
theorem laid_at {out : List UInt8} {m at_ n V piece q r d : Nat} (hq : q = at_ / 8) (hr : r = 8 - at_ % 8) (hd : d = r - n) (hm : out.length = m) (hn0 : 0 < n) (hn : n ≤ r) (hat : at_ + n ≤ 8 * m) (hp : piece < 2 ^ n) (hv : bval out = V * 2 ^ (8 * m - at_)) :
    ∃ h : q < out.length, out[q].toNat % 2 ^ r = 0 ∧ out[q].toNat + piece * 2 ^ d < 256 ∧ piece * 2 ^ d < 2 ^ r ∧ bval (out.set q (UInt8.ofNat (out[q].toNat + piece * 2 ^ d))) = (V * 2 ^ n + piece) * 2 ^ (8 * m - (at_ + n)) := by
  subst hq hr hd
  exact laid_step hm hn0 hn hat hp hv
/-- The piece of a number that comes next. -/
theorem piece_step (V0 x W k n : Nat) (hk : k ≤ W) (hn : n ≤ k) : (V0 * 2 ^ (W - k) + x / 2 ^ k) * 2 ^ n + x / 2 ^ (k - n) % 2 ^ n = V0 * 2 ^ (W - (k - n)) + x / 2 ^ (k - n) := by
  have h1 : x / 2 ^ k = x / 2 ^ (k - n) / 2 ^ n := by rw [Nat.div_div_eq_div_mul, ← Nat.pow_add]; congr 2; omega
  have h2 := Nat.div_add_mod (x / 2 ^ (k - n)) (2 ^ n)
  have h3 : 2 ^ (W - (k - n)) = 2 ^ (W - k) * 2 ^ n := by rw [← Nat.pow_add]; congr 1; omega
  rw [h1, h3, Nat.add_mul, Nat.mul_assoc, Nat.mul_comm (x / 2 ^ (k - n) / 2 ^ n)]
  omega

theorem pval_snoc (w : Nat) (l : List Nat) (x : Nat) : pval w (l ++ [x]) = pval w l * 2 ^ w + x := by
  induction l with
  | nil => simp [pval]
  | cons y r ih =>
    rw [List.cons_append, pval, pval, ih, List.length_append, List.length_singleton, Nat.mul_add, Nat.mul_one, Nat.pow_add, Nat.add_mul, Nat.mul_assoc]
    omega
theorem pval_lt {w : Nat} : ∀ {l : List Nat}, (∀ x ∈ l, x < 2 ^ w) → pval w l < 2 ^ (w * l.length)
  | [], _ => by simp [pval]
  | x :: r, h => by
    have ih := pval_lt (l := r) fun y hy => h y (by simp [hy])
    have hx : (x + 1) * 2 ^ (w * r.length) ≤ 2 ^ w * 2 ^ (w * r.length) := Nat.mul_le_mul_right _ (h x (by simp))
    rw [pval, List.length_cons, Nat.mul_add, Nat.mul_one, Nat.pow_add, Nat.mul_comm (2 ^ (w * r.length))]
    rw [Nat.add_mul] at hx
    omega
theorem pval_get {w : Nat} : ∀ {l : List Nat} (k : Nat) (hk : k < l.length), (∀ x ∈ l, x < 2 ^ w) → pval w l / 2 ^ (w * (l.length - 1 - k)) % 2 ^ w = l[k]
  | x :: r, 0, _, h => by
    have ih := pval_lt (l := r) fun y hy => h y (by simp [hy])
    have hp : 0 < 2 ^ (w * r.length) := Nat.pow_pos (by omega)
    simp only [List.getElem_cons_zero, pval, List.length_cons, Nat.add_sub_cancel, Nat.sub_zero]
    rw [Nat.mul_comm x, Nat.mul_add_div hp, Nat.div_eq_of_lt ih, Nat.add_zero, Nat.mod_eq_of_lt (h x (by simp))]
  | x :: r, k + 1, hk, h => by
    have hk' : k < r.length := by simpa using hk
    have ih := pval_get (l := r) k hk' fun y hy => h y (by simp [hy])
    simp only [List.getElem_cons_succ, pval, List.length_cons, Nat.add_sub_cancel]
    have he : r.length - (k + 1) = r.length - 1 - k := by omega
    rw [he]
    have hs : 2 ^ (w * r.length) = 2 ^ (w * (r.length - 1 - k)) * (2 ^ (w * k) * 2 ^ w) := by
      rw [← Nat.pow_add, ← Nat.pow_add]; congr 1
      rw [← Nat.mul_succ, ← Nat.mul_add]; congr 1; omega
    have hp : 0 < 2 ^ (w * (r.length - 1 - k)) := Nat.pow_pos (by omega)
    rw [hs, show x * (2 ^ (w * (r.length - 1 - k)) * (2 ^ (w * k) * 2 ^ w)) = 2 ^ (w * (r.length - 1 - k)) * (2 ^ w * (x * 2 ^ (w * k))) by
      rw [Nat.mul_left_comm, ← Nat.mul_assoc x, Nat.mul_comm (2 ^ w)], Nat.mul_add_div hp, Nat.mul_add_mod]
    exact ih

/-- The bytes of numbers that are packed. -/
def bpack (l : List Nat) (w : Nat) : List UInt8 := be (bsize l.length w) (pval w l * 2 ^ (8 * bsize l.length w - w * l.length))
theorem bsize_le (n w : Nat) : w * n ≤ 8 * bsize n w := by unfold bsize; rw [Nat.mul_comm]; omega
theorem bpack_len (l : List Nat) (w : Nat) : (bpack l w).length = bsize l.length w := be_len _ _
theorem bval_bpack {l : List Nat} {w : Nat} (h : ∀ x ∈ l, x < 2 ^ w) : bval (bpack l w) = pval w l * 2 ^ (8 * bsize l.length w - w * l.length) := by
  rw [bpack, bval_be, Nat.mod_eq_of_lt]
  have h1 := pval_lt h
  have h2 := bsize_le l.length w
  rw [p256, show 2 ^ (8 * bsize l.length w) = 2 ^ (w * l.length) * 2 ^ (8 * bsize l.length w - w * l.length) by rw [← Nat.pow_add]; congr 1; omega]
  exact Nat.mul_lt_mul_of_pos_right h1 (Nat.pow_pos (by omega))

/-- So many bits of B, of M bits in all, behind the first at_ bits. -/
def btake (B M at_ w : Nat) : Nat := B / 2 ^ (M - (at_ + w)) % 2 ^ w
/-- The numbers that bits are. -/
def bnums (B M w n : Nat) : List Nat := (List.range n).map fun i => btake B M (w * i) w
theorem bnums_len (B M w n : Nat) : (bnums B M w n).length = n := by simp [bnums]
/-- Numbers that are packed are unpacked as they were. -/
theorem bnums_bpack {l : List Nat} {w : Nat} (h : ∀ x ∈ l, x < 2 ^ w) : bnums (bval (bpack l w)) (8 * bsize l.length w) w l.length = l := by
  refine List.ext_getElem (bnums_len _ _ _ _) fun i h1 h2 => ?_
  simp only [bnums, List.getElem_map, List.getElem_range]
  rw [bval_bpack h]
  unfold btake
  have hg := pval_get i h2 h
  have hs := bsize_le l.length w
  have hi : w * i + w ≤ w * l.length := by rw [← Nat.mul_succ]; exact Nat.mul_le_mul_left _ h2
  have he : 8 * bsize l.length w - (w * i + w) = (8 * bsize l.length w - w * l.length) + w * (l.length - 1 - i) := by
    have : w * (l.length - 1 - i) + (w * i + w) = w * l.length := by rw [← Nat.mul_succ, ← Nat.mul_add]; congr 1; omega
    omega
  rw [he, Nat.pow_add, ← Nat.div_div_eq_div_mul, Nat.mul_div_cancel _ (Nat.pow_pos (by omega)), hg]
theorem bpack_spare {l : List Nat} {w : Nat} (h : ∀ x ∈ l, x < 2 ^ w) : bval (bpack l w) % 2 ^ (8 * bsize l.length w - w * l.length) = 0 := by
  rw [bval_bpack h]; exact Nat.mul_mod_left _ _
end Go.Proofs.YtblpkmmhmdpkjaaGreatDoor

/- Bits of bytes in a walk: what layers 3 and 6 share. Over any program. -/





namespace Go.Proofs.YtblpkmmhmdpkjaaGreatDoor

open Go.RowKit

theorem row_set {w : World} {g : Nat} {t : TypeId} {out : List UInt8} (h : Row w g t (out.map bv)) (q C : Nat) (hC : C < 256) : Row (w.setCell ⟨g, q, none⟩ (.int .u8 (C : Int))) g t ((out.set q (UInt8.ofNat C)).map bv) := by
  have h1 := h.set_ q (.int .u8 (C : Int))
  have h2 : Value.int .u8 (C : Int) = bv (UInt8.ofNat C) := by
    unfold bv
    congr 1
    simp only [UInt8.toNat_ofNat', Nat.reducePow]
    omega
  rw [List.map_set, ← h2]
  exact h1
/-- The lowest n bits of a number, as the program takes them. -/
theorem and_low (x j n L : Nat) (hx : x < 2 ^ 64) (hn : n ≤ 8) (hL : L = 2 ^ n - 1) : bits .and .u64 ((x : Int) / 2 ^ j) (L : Int) = ((x / 2 ^ j % 2 ^ n : Nat) : Int) := by
  have h1 : (x : Int) / 2 ^ j = ((x / 2 ^ j : Nat) : Int) := by simp
  have h2 : 2 ^ n ≤ 2 ^ 8 := Nat.pow_le_pow_right (by omega) hn
  have h3 := Nat.div_le_self x (2 ^ j)
  rw [h1]
  generalize x / 2 ^ j = y at *
  rw [u64_and _ _ (by omega) (by omega) (by omega) (by omega), Int.toNat_natCast, Int.toNat_natCast, hL, Nat.and_two_pow_sub_one_eq_mod]
end Go.Proofs.YtblpkmmhmdpkjaaGreatDoor
