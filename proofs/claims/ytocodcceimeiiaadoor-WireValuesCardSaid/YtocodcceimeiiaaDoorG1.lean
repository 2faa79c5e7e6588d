/- Texts that the claims of this seat share, part 1: Bits Mem Region Ops Row Law Com Str Shelf Tab BPlain BGen Plain VZig Leaf RPut Put Take. -/
import Derived.Laws.BitsAllLaws
import Derived.Laws.BitsLemmas
import Derived.WalkKit
import Derived.Below
import Derived.Laws.OwnMore
import Derived.Laws.BytesArg
import Derived.Laws.CopyOwn
import Derived.Maps.AppendAt
import Derived.Deep.Draws
import Derived.Deep.RegionLaw
import Derived.Orders
import Derived.StillTail
import Derived.Test.YtocodcceimeiiaaDoorRows
import Derived.WalkLawsBesides
import Derived.ProofKit
import Derived.OpenShut
import Derived.SizedLaws
import Derived.Carry
import Derived.ChangeSlices
import Derived.SevenTiedAt
import Derived.Outline
import Derived.Lib.Hide
import Derived.Handy
import Derived.Deep.QuietTactic
import Derived.BigQuiet
import Derived.StillTailTactics
import Derived.Deep.DeepMust
import Derived.Lib.SlBytesConst
import Derived.Laws.ResultCell
import Derived.Great.BuildSlice
import Derived.Shelf.Strconv.Itoa0
import Derived.Test.YtocodcceimeiiaaDoorProg
import Derived.LaidMore
import Derived.Laws.Rows
import Derived.MakeChecks
import Derived.LaidSub
import Derived.Lib.BitFns
import Derived.Lib.MinMax
/- Bit operations of the model on numbers in their range, as plain arithmetic. -/







namespace Go.Proofs.YtocodcceimeiiaaDoor

theorem u64_not (x : Int) (h0 : 0 ≤ x) (h1 : x < 18446744073709551616) : bits .xor .u64 IntKind.u64.max x = 18446744073709551615 - x := by
  obtain ⟨n, rfl⟩ := Int.eq_ofNat_of_zero_le h0
  have hm : IntKind.u64.max = ((18446744073709551615 : Nat) : Int) := by decide
  rw [hm, u64_xor_nat _ _ (by omega) (by omega)]
  have h : 18446744073709551615 ^^^ n = 18446744073709551615 - n := by
    have h3 : (BitVec.ofNat 64 n) ^^^ BitVec.allOnes 64 = ~~~ (BitVec.ofNat 64 n) := BitVec.xor_allOnes
    have h4 := congrArg BitVec.toNat h3
    rw [BitVec.toNat_xor, BitVec.toNat_not, BitVec.toNat_allOnes, BitVec.toNat_ofNat, Nat.mod_eq_of_lt (by omega), Nat.xor_comm] at h4
    simpa using h4
  rw [h]
  omega
theorem i64_not (x : Int) (h0 : 0 ≤ x) (h1 : x < 9223372036854775808) : bits .xor .i64 (-1) x = -x - 1 := by
  obtain ⟨n, rfl⟩ := Int.eq_ofNat_of_zero_le h0
  show IntKind.i64.wrap ((BitVec.ofInt 64 (-1) ^^^ BitVec.ofInt 64 (n : Int)).toNat : Int) = _
  have h3 : BitVec.ofInt 64 (-1) ^^^ BitVec.ofInt 64 (n : Int) = ~~~ (BitVec.ofNat 64 n) := by
    rw [BitVec.ofInt_natCast, show BitVec.ofInt 64 (-1) = BitVec.allOnes 64 by decide, BitVec.xor_comm, BitVec.xor_allOnes]
  rw [h3, BitVec.toNat_not, BitVec.toNat_ofNat, Nat.mod_eq_of_lt (by omega), IntKind.wrap_i64]
  omega
theorem u64_and1 (x : Int) (h0 : 0 ≤ x) (h1 : x < 18446744073709551616) : bits .and .u64 x 1 = x % 2 := by
  rw [u64_and x 1 h0 h1 (by omega) (by omega), show (1 : Int).toNat = 1 from rfl, nat_mask1]
  omega
theorem u64_or1 (x : Int) (h0 : 0 ≤ x) (h1 : x < 18446744073709551616) : bits .or .u64 x 1 = ((x.toNat ||| 1 : Nat) : Int) := by
  rw [u64_or x 1 h0 h1 (by omega) (by omega)]
  rfl
theorem u8_and127 (x : Int) (h0 : 0 ≤ x) (h1 : x < 256) : bits .and .u8 x 127 = x % 128 := by
  rw [u8_and x 127 h0 h1 (by omega) (by omega), show (127 : Int).toNat = 127 from rfl, nat_mask7]
  omega
theorem u8_and128 (x : Int) (h0 : 0 ≤ x) (h1 : x < 256) : bits .and .u8 x 128 = x / 128 * 128 := by
  rw [u8_and x 128 h0 h1 (by omega) (by omega), show (128 : Int).toNat = 2 ^ 7 from rfl, nat_bit]
  omega
theorem u8_or128 (x : Int) (h0 : 0 ≤ x) (h1 : x < 256) : bits .or .u8 x 128 = x % 128 + 128 := by
  rw [u8_or x 128 h0 h1 (by omega) (by omega), show (128 : Int).toNat = 128 from rfl]
  have h : ∀ n : Fin 256, n.val ||| 128 = n.val % 128 + 128 := by decide +kernel
  have := h ⟨x.toNat, by omega⟩
  simp only at this
  omega
/-- Bits that don't meet are added. -/
theorem u64_join (k a b : Nat) (ha : a < 2 ^ k) (hb : b * 2 ^ k < 18446744073709551616) (hk : a < 18446744073709551616) : bits .or .u64 (a : Int) ((b * 2 ^ k : Nat) : Int) = ((a + b * 2 ^ k : Nat) : Int) := by
  rw [u64_or_nat a (b * 2 ^ k) hk hb, Nat.or_comm, nat_join k (b * 2 ^ k) a (by simp) ha, Nat.add_comm]
end Go.Proofs.YtocodcceimeiiaaDoor

/- Slices in memory: what lies at an address, and what becomes of it. Over any program. -/

















namespace Go.Proofs.YtocodcceimeiiaaDoor

open Go.RowKit

theorem add_block (a : Addr) (n : Nat) : (a.add n).block = a.block := by unfold Addr.add; split <;> rfl
theorem add_add (a : Addr) (i j : Nat) : (a.add i).add j = a.add (i + j) := by
  unfold Addr.add
  rcases Nat.eq_zero_or_pos i with rfl | hi
  · simp
  · rcases Nat.eq_zero_or_pos j with rfl | hj
    · simp
    · rw [if_neg (by omega), if_neg (by omega), if_neg (by omega)]; simp [Nat.add_assoc]

/-- The cells xs lie at A, in a block that is there. (Where there are none, A is whatever.) -/
def Lies (w : World) (A : Option Addr) (xs : List Value) : Prop :=
  xs = [] ∨ ∃ ad, A = some ad ∧ ad.block < w.heap.size ∧ ∀ j u, xs[j]? = some u → w.cell? (ad.add j) = some u

section

variable {w w' : World} {A : Option Addr} {xs : List Value}
theorem Lies.nil : Lies w A [] := .inl rfl
theorem Lies.below (h : Lies w A xs) (hb : Below w.heap.size w w') : Lies w' A xs := by
  rcases h with h | ⟨ad, hA, hlt, hc⟩
  · exact .inl h
  · exact .inr ⟨ad, hA, Nat.lt_of_lt_of_le hlt hb.size, fun j u hu => (hb.cell (by rw [add_block]; exact hlt)).trans (hc j u hu)⟩
theorem Lies.drewN (h : Lies w A xs) (n : Nat) : Lies (w.drewN n) A xs := h
theorem Lies.take (h : Lies w A xs) (k : Nat) : Lies w A (xs.take k) := by
  rcases h with h | ⟨ad, hA, hlt, hc⟩
  · exact .inl (by simp [h])
  · exact .inr ⟨ad, hA, hlt, fun j u hu => hc j u (by rw [List.getElem?_take] at hu; split at hu <;> simp_all)⟩
theorem Lies.drop (h : Lies w A xs) {k cap : Nat} (hc : xs.length ≤ cap) : Lies w (if cap = k then A else A.map (·.add k)) (xs.drop k) := by
  rcases h with h | ⟨ad, hA, hlt, hcell⟩
  · exact .inl (by simp [h])
  · by_cases hk : xs.length ≤ k
    · exact .inl (List.drop_of_length_le hk)
    · refine .inr ⟨ad.add k, ?_, by rw [add_block]; exact hlt, fun j u hu => ?_⟩
      · rw [if_neg (by omega), hA]; rfl
      · rw [add_add]; exact hcell _ u (by rw [← hu, List.getElem?_drop])
theorem Lies.drop_some {ad : Addr} (h : Lies w (some ad) xs) (k : Nat) : Lies w (some ⟨ad.block, ad.off + (k + 1), none⟩) (xs.drop (k + 1)) := by
  have h1 := h.drop (k := k + 1) (cap := xs.length + (k + 2)) (by omega)
  rw [if_neg (by omega)] at h1
  have h2 : Option.map (·.add (k + 1)) (some ad) = some ⟨ad.block, ad.off + (k + 1), none⟩ := by simp [Addr.add]
  rw [h2] at h1
  exact h1
theorem Lies.cell (h : Lies w A xs) {k : Nat} (hk : k < xs.length) : ∃ ad, A = some ad ∧ ad.block < w.heap.size ∧ w.cell? (ad.add k) = some xs[k] := by
  rcases h with h | ⟨ad, hA, hlt, hc⟩
  · subst h; simp at hk
  · exact ⟨ad, hA, hlt, hc k _ (List.getElem?_eq_getElem hk)⟩
theorem Lies.own {base : Nat} {e : TypeId} {n c : Nat} (h : w.ownsRow base e 1 (.slice A n c) n xs) : Lies w A xs := by
  rcases h.2 with ⟨_, h0⟩ | ⟨g, cap, cur, hv, _, hg, _⟩
  · exact .inl (List.eq_nil_of_length_eq_zero (by have := h.1; omega))
  · injection hv with hA _ _
    subst hA
    exact .inr ⟨_, rfl, (Array.getElem?_eq_some_iff.1 hg).1, h.cells (g := g) rfl⟩
/-- What is owned is a slice of so many, with no less room. -/
theorem own_shape {base : Nat} {e : TypeId} {n : Nat} {v : Value} (h : w.ownsRow base e 1 v n xs) :
    ∃ B c, v = .slice B n c ∧ n ≤ c ∧ c ≤ maxLen ∧ (∀ g, v.ownBlock = some g → base ≤ g) ∧ Lies w B xs ∧ xs.length = n := by
  have hl : xs.length = n := by simpa using h.1
  rcases h.2 with ⟨rfl, rfl⟩ | ⟨g, cap, cur, rfl, hb, hg, hnc, hcm, hcs, ht⟩
  · exact ⟨none, 0, rfl, Nat.le_refl _, by unfold maxLen; omega, by simp [Value.ownBlock], .inl (List.eq_nil_of_length_eq_zero hl), hl⟩
  · exact ⟨_, cap, rfl, hnc, hcm, by simp [Value.ownBlock]; exact hb, Lies.own h, hl⟩
end

/-- A byte, and bytes, as cells. -/
def bv (b : UInt8) : Value := .int .u8 (b.toNat : Int)
/-- A number that is not below 0, as the program has it. -/
def uv (x : Nat) : Value := .int .u64 (x : Int)
theorem bv_one (l : List UInt8) : ∀ u ∈ l.map bv, u.oneCell' = true := by
  intro u hu
  obtain ⟨b, _, rfl⟩ := List.mem_map.1 hu
  rfl

section

variable {P : Program} (w : World)
/-- Bytes as a text. -/
theorem run_text (src e dst : TypeId) (hs : P.underlying src = some (.slice e)) (he : P.underlying e = some (.int .u8)) (hd : P.underlying dst = some .string)
    (A : Option Addr) (n c : Nat) (l : List UInt8) (hn : l.length = n) (h : Lies w A (l.map bv)) :
    (convert src dst (.slice A n c)).run P w = .ok (.string ⟨l.toArray⟩) w := by
  subst hn
  rcases A with _ | ad
  · have hl : l = [] := by
      rcases h with h | ⟨ad, h, _⟩
      · simpa using h
      · cases h
    subst hl
    rw [run_convert_bytes_nil w src e hs he _ _ dst hd]
    rfl
  · have hc : (loadCells ad l.length).run P w = .ok ((l.map fun b => (b.toNat : Int)).map (Value.int .u8)).toArray w := by
      have := run_loadCells_list (P := P) w ad (l.map bv) (fun j u hu => by
        rcases h with h | ⟨ad', hA, _, hc⟩
        · rw [h] at hu; simp at hu
        · injection hA with hA; subst hA; exact hc j u hu)
      have he : (l.map fun b => (b.toNat : Int)).map (Value.int .u8) = l.map bv := by rw [List.map_map]; rfl
      rw [he]
      simpa using this
    rw [run_convert_bytes_string w src dst e _ _ c hs he hd, run_bytesToString w _ _ c _ hc, foldl_push_bytes]
    have he : (l.map fun b => (b.toNat : Int)).map (fun n => UInt8.ofNat n.toNat) = l := by
      rw [List.map_map]
      conv => rhs; rw [← List.map_id l]
      exact List.map_congr_left fun b _ => by simp
    rw [he]
    simp [ByteArray.empty, ByteArray.emptyWithCapacity]
    rfl

theorem run_append_lies (base : Nat) (t ty e : TypeId) (i : TypeInfo) (z : Value) (bytes : Nat) (ht : P.underlying t = some (.slice e)) (hi : P.info? e = some i) (hz : i.zero = some z)
    (hsize : i.size = 1) (hby : i.bytes = bytes) (hzs : z.cells.size = 1)
    (v : Value) (n : Nat) (xs : List Value) (hown : w.ownsRow base e 1 v n xs) (A : Option Addr) (m c : Nat) (hA : A = none → m = 0) (news : List Value) (hm : news.length = m) (hr : Lies w A news) (h1 : ∀ u ∈ news, u.oneCell' = true)
    (h63 : n + m ≤ maxLen) (hbytes : (n + m) * bytes ≤ 140737488355328) (hbase : base ≤ w.heap.size) :
    ∃ v' w', (Builtin.append_ #[t, t] ty #[v, .slice A m c]).run P w = .ok v' w' ∧ w'.ownsRow base e 1 v' (n + m) (xs ++ news) ∧ w.grownBy w' v.ownBlock ∧
      (v'.ownBlock = v.ownBlock ∨ v'.ownBlock = some w.heap.size) := by
  rcases A with _ | ad
  · have hm0 := hA rfl
    subst hm0
    have hn : news = [] := List.eq_nil_of_length_eq_zero hm
    subst hn
    refine ⟨v, w, ?_, by simpa using hown, World.grownBy.refl w _, .inl rfl⟩
    rcases hown.2 with ⟨rfl, rfl⟩ | ⟨g, cap, cur, rfl, _, _, hnc, _⟩
    · simp [Builtin.append_, run_underlying ht, sizeOf, typeInfo, hi, Builtin.lenOf, Builtin.firstCells]
    · simp [Builtin.append_, run_underlying ht, sizeOf, typeInfo, hi, Builtin.lenOf, Builtin.firstCells, hnc, storeCells]
  · have hcells : ∀ j u, news[j]? = some u → w.cell? (ad.add j) = some u := by
      intro j u hu
      rcases hr with hr | ⟨ad', hA, _, hc⟩
      · rw [hr] at hu; simp at hu
      · injection hA with hA; subst hA; exact hc j u hu
    obtain ⟨v', w', hrun, h2, h3, _, h5⟩ := run_append_own_at (P := P) w base t ty e i z 1 bytes ht hi hz hsize hby hzs (by omega) v n xs hown ad m c news (by omega) hcells h1 h63 hbytes hbase
    exact ⟨v', w', hrun, h2, h3, h5⟩

/-- append, at a call of the walk. -/
theorem wpList_append_lies {ops : Array Oper} {rest : List Oper} {o : Oper} {a : Act} {Q : Exit → Act → World → Prop} (hgd : o.guard = none) (s x : Operand) (t : TypeId)
    (ho : o.op = .call { callee := .builtin .append, args := #[s, x], argTypes := #[t, t] })
    (base : Nat) (e : TypeId) (i : TypeInfo) (z : Value) (bytes : Nat) (ht : P.underlying t = some (.slice e)) (hi : P.info? e = some i) (hz : i.zero = some z)
    (hsize : i.size = 1) (hby : i.bytes = bytes) (hzs : z.cells.size = 1)
    (v : Value) (n : Nat) (xs : List Value) (hs : a.eval s = v) (hown : w.ownsRow base e 1 v n xs) (A : Option Addr) (m c : Nat) (hx : a.eval x = .slice A m c) (hA : A = none → m = 0)
    (news : List Value) (hm : news.length = m) (hr : Lies w A news) (h1 : ∀ u ∈ news, u.oneCell' = true)
    (h63 : n + m ≤ maxLen) (hbytes : (n + m) * bytes ≤ 140737488355328) (hbase : base ≤ w.heap.size)
    (h : ∀ v' w', w'.ownsRow base e 1 v' (n + m) (xs ++ news) → w.grownBy w' v.ownBlock → (v'.ownBlock = v.ownBlock ∨ v'.ownBlock = some w.heap.size) → wpList P ops Q rest (a.put o.dst v') w') : wpList P ops Q (o :: rest) a w := by
  refine wpList_plain hgd fun K hK => ?_
  obtain ⟨v', w', hrun, h2, h3, h4⟩ := run_append_lies (P := P) w base t o.type e i z bytes ht hi hz hsize hby hzs v n xs hown A m c hA news hm hr h1 h63 hbytes hbase
  unfold Oper.wp execOp
  simp only [ho, resolve, invoke, builtin, Sem.run_bind, Sem.run_pure, Result.andThen_ok, List.map_toArray, List.map_cons, List.map_nil, hs, hx, hrun]
  exact hK _ _ (h v' w' h2 h3 h4)
end

/-- Behind an append to what the call owns, old memory is as it was. -/
theorem below_append {w0 w w' : World} {base : Nat} {e : TypeId} {v : Value} {n : Nat} {xs : List Value} (hb : Below base w0 w) (hown : w.ownsRow base e 1 v n xs) (hz : base ≤ w.heap.size) (hg : w.grownBy w' v.ownBlock) : Below base w0 w' :=
  hb.grown hg hz fun _ hk => (hown.lt _ hk).1

theorem cell_new (w : World) (u : Value) (t : TypeId) : Lies (w.alloc (.cells #[u] t)) (some ⟨w.heap.size, 0, none⟩) [u] := by
  refine .inr ⟨_, rfl, by simp, fun j v hv => ?_⟩
  match j, hv with
  | 0, hv => simp at hv; subst hv; simp [Addr.add]

/-- The facts on an element's type that appends ask: one cell, so many bytes. -/
structure Elem (P : Program) (t e : TypeId) (bytes : Nat) (z : Value) : Prop where
  under : P.underlying t = some (.slice e)
  one : z.cells = #[z]
  info : ∃ (i : TypeInfo), P.info? e = some i ∧ i.zero = some z ∧ i.size = 1 ∧ i.bytes = bytes

/-- append of one value, at a call of the walk: the row that the call owns has one more; old memory is as it was. -/
theorem wpList_push {P : Program} {W : World} {ops : Array Oper} {rest : List Oper} {o : Oper} {a : Act} {Q : Exit → Act → World → Prop} {t e : TypeId} {bytes : Nat} {z : Value} (E : Elem P t e bytes z)
    (hgd : o.guard = none) (s x : Operand) (ho : o.op = .call { callee := .builtin .append, args := #[s, x], argTypes := #[t, t] })
    (base : Nat) (v : Value) (n : Nat) (xs : List Value) (u : Value) (w w0 : World) (hs : a.eval s = v) (hx : a.eval x = .slice (some ⟨w.heap.size, 0, none⟩) 1 1) (hW : W = w.alloc (.cells #[u] e))
    (hu : u.oneCell' = true) (hown : w.ownsRow base e 1 v n xs) (hb : Below base w0 w) (hbase : base ≤ w.heap.size) (hn : n ≤ 1000000000) (hby : bytes ≤ 100)
    (h : ∀ v' w', w'.ownsRow base e 1 v' (n + 1) (xs ++ [u]) → Below base w0 w' → w.grownBy w' v.ownBlock → (v'.ownBlock = v.ownBlock ∨ v'.ownBlock = some (w.heap.size + 1)) → wpList P ops Q rest (a.put o.dst v') w') : wpList P ops Q (o :: rest) a W := by
  obtain ⟨i, h1, h2, h3, h4⟩ := E.info
  have h5 : z.cells.size = 1 := by rw [E.one]; rfl
  subst hW
  have hle : (n + 1) * bytes ≤ (n + 1) * 100 := Nat.mul_le_mul_left _ hby
  refine wpList_append_lies _ hgd s x t ho base e i z bytes E.under h1 h2 h3 h4 h5 v n xs hs (hown.alloc _) _ _ _ hx (by simp) [u] rfl (cell_new w u e) (by simpa using hu) (by unfold maxLen; omega) (by omega) (by simp; omega) ?_
  intro v' w' hown' hg hq
  refine h v' w' hown' (below_append (hb.alloc hbase _) (hown.alloc _) (by simp; omega) hg) ⟨hg.os, hg.tape, hg.output, Nat.le_trans (by simp) hg.size, fun k hk hne => (hg.block k (by simp; omega) hne).trans (Below.heap_alloc w _ k hk)⟩ (by simpa using hq)

/-- append of what lies somewhere, at a call of the walk. -/
theorem wpList_join {P : Program} {w : World} {ops : Array Oper} {rest : List Oper} {o : Oper} {a : Act} {Q : Exit → Act → World → Prop} {t e : TypeId} {bytes : Nat} {z : Value} (E : Elem P t e bytes z)
    (hgd : o.guard = none) (s x : Operand) (ho : o.op = .call { callee := .builtin .append, args := #[s, x], argTypes := #[t, t] })
    (base : Nat) (v : Value) (n : Nat) (xs : List Value) (A : Option Addr) (m c : Nat) (news : List Value) (w0 : World) (hs : a.eval s = v) (hx : a.eval x = .slice A m c)
    (hA : A = none → m = 0) (hm : news.length = m) (hr : Lies w A news) (h1 : ∀ u ∈ news, u.oneCell' = true)
    (hown : w.ownsRow base e 1 v n xs) (hb : Below base w0 w) (hbase : base ≤ w.heap.size) (hn : n + m ≤ 1000000000) (hby : bytes ≤ 100)
    (h : ∀ v' w', w'.ownsRow base e 1 v' (n + m) (xs ++ news) → Below base w0 w' → w.grownBy w' v.ownBlock → (v'.ownBlock = v.ownBlock ∨ v'.ownBlock = some w.heap.size) → wpList P ops Q rest (a.put o.dst v') w') : wpList P ops Q (o :: rest) a w := by
  obtain ⟨i, h2, h3, h4, h5⟩ := E.info
  have h6 : z.cells.size = 1 := by rw [E.one]; rfl
  have hle : (n + m) * bytes ≤ (n + m) * 100 := Nat.mul_le_mul_left _ hby
  refine wpList_append_lies _ hgd s x t ho base e i z bytes E.under h2 h3 h4 h5 h6 v n xs hs hown A m c hx hA news hm hr h1 (by unfold maxLen; omega) (by omega) hbase ?_
  intro v' w' hown' hg hq
  exact h v' w' hown' (below_append hb hown hbase hg) hg hq

/-- Block g is just the cells cs, none of them frozen. -/
def Row (w : World) (g : Nat) (t : TypeId) (cs : List Value) : Prop := w.heap[g]? = some (.cells cs.toArray t (0, 0))
section

variable {w w' : World} {g : Nat} {t : TypeId} {cs : List Value}
theorem Row.lt (h : Row w g t cs) : g < w.heap.size := (Array.getElem?_eq_some_iff.1 h).1
theorem Row.cell (h : Row w g t cs) (i : Nat) : w.cell? ⟨g, i, none⟩ = cs[i]? := by rw [cell_of_row w g i cs.toArray t (0, 0) h]; simp
theorem Row.free (h : Row w g t cs) (i : Nat) : w.frozen? ⟨g, i, none⟩ = false := by unfold Row at h; simp [World.frozen?, h]
theorem Row.set_ (h : Row w g t cs) (i : Nat) (u : Value) : Row (w.setCell ⟨g, i, none⟩ u) g t (cs.set i u) := by
  unfold Row at h ⊢
  simp [World.setCell, Array.getElem?_modify, h]
theorem Row.far (h : Row w g t cs) {p : Addr} (hp : g ≠ p.block) (u : Value) : Row (w.setCell p u) g t cs := (Below.heap_setCell w p u g hp).trans h
theorem Row.below {B : Nat} (h : Row w g t cs) (hb : Below B w w') (hg : g < B) : Row w' g t cs := (hb.block g hg).trans h
theorem Row.drewN (h : Row w g t cs) (n : Nat) : Row (w.drewN n) g t cs := h
theorem Row.alloc (h : Row w g t cs) (o : Obj) : Row (w.alloc o) g t cs := (Below.heap_alloc w o g h.lt).trans h
theorem Row.lies (h : Row w g t cs) (k : Nat) : Lies w (some ⟨g, k, none⟩) (cs.drop k) := by
  refine .inr ⟨_, rfl, h.lt, fun j u hu => ?_⟩
  rw [List.getElem?_drop] at hu
  have he : (⟨g, k, none⟩ : Addr).add j = ⟨g, k + j, none⟩ := by unfold Addr.add; split <;> simp_all
  rw [he, h.cell, hu]
end

/-- make, at a call of the walk. -/
theorem wpList_make {P : Program} {w : World} {ops : Array Oper} {rest : List Oper} {o : Oper} {a : Act} {Q : Exit → Act → World → Prop} {t e : TypeId} {bytes : Nat} {z : Value} (E : Elem P t e bytes z)
    (hgd : o.guard = none) (l c : Operand) (hop : o.op = Op.makeSlice t l c) (kl kc : IntKind) (L C : Int) (n : Nat) (w0 : World) (B : Nat)
    (hl : a.eval l = .int kl L) (hc : a.eval c = .int kc C) (hL : L = (n : Int)) (hC : C = (n : Int)) (hn : n ≤ 1000000000) (hby : bytes ≤ 100) (hb : Below B w0 w) (hB : B ≤ w.heap.size)
    (h : ∀ w', Row w' w.heap.size e (List.replicate n z) → Below B w0 w' → wpList P ops Q rest (a.put o.dst (.slice (some ⟨w.heap.size, 0, none⟩) n n)) w') :
    wpList P ops Q (o :: rest) a w := by
  obtain ⟨i, h1, h2, h3, h4⟩ := E.info
  refine wpList_plain hgd fun K hK => ?_
  have hle : bytes * n ≤ 100 * n := Nat.mul_le_mul_right _ hby
  have hbi : (i.bytes : Int) * (n : Int) ≤ 281474976710656 := by
    rw [h4, ← Int.natCast_mul]; omega
  have hrun := run_make (P := P) w t e i z E.under h1 h2 kl kc n n (by omega) (by omega) hbi (by omega)
  subst hL
  subst hC
  unfold Oper.wp
  simp only [execOp, hop, hl, hc, hrun, Result.andThen_ok, Sem.run_bind, Sem.run_pure]
  simp only [Int.toNat_natCast, h3, Nat.mul_one, E.one]
  refine hK _ _ (h _ ?_ (hb.alloc hB _))
  unfold Row
  rw [heap_alloc_new]
  congr 2
  rw [← Array.toList_inj]
  simp only [madeCells, Array.toList_map, Array.toList_range]
  have hz : ∀ x : Nat, (#[z] : Array Value)[x % (#[z] : Array Value).size]! = z := by
    intro x
    have : x % (#[z] : Array Value).size = 0 := Nat.mod_one x
    rw [this]
    rfl
  simp only [hz, List.map_const', List.length_range]

/-- copy of all that lies somewhere into a row of the call's own, at a call of the walk. -/
theorem wpList_copyRow {P : Program} {w : World} {ops : Array Oper} {rest : List Oper} {o : Oper} {a : Act} {Q : Exit → Act → World → Prop} {t e : TypeId} {bytes : Nat} {z : Value} (E : Elem P t e bytes z)
    (hgd : o.guard = none) (d s : Operand) (ho : o.op = .call { callee := .builtin .copy, args := #[d, s], argTypes := #[t, t] })
    (g off dLen dCap : Nat) (A : Option Addr) (m c : Nat) (cur src : List Value) (B : Nat) (w0 : World)
    (hd : a.eval d = .slice (some ⟨g, off, none⟩) dLen dCap) (hs : a.eval s = .slice A m c) (hr : Row w g e cur) (hm : src.length = m) (hl : Lies w A src) (h1 : ∀ u ∈ src, u.oneCell' = true)
    (hle : m ≤ dLen) (hfit : off + m ≤ cur.length) (hb : Below B w0 w) (hB : B ≤ g)
    (h : ∀ w', Row w' g e (cur.take off ++ (src ++ cur.drop (off + m))) → Below B w0 w' → wpList P ops Q rest (a.put o.dst (goInt m)) w') :
    wpList P ops Q (o :: rest) a w := by
  obtain ⟨i, h2, h3, h4, h5⟩ := E.info
  subst hm
  refine wpList_copy_splice hgd d s t t ho e E.under (by rw [h2]; simp [h4]) _ _ _ _ _ _ hd hs g off cur e hr src (Nat.min_eq_left hle).symm ?_ hfit h1 B w0 hb hB ?_
  · intro hp
    refine ⟨rfl, ?_⟩
    rcases hl with hl | ⟨ad, hA, _, hc⟩
    · rw [hl] at hp; simp at hp
    · exact ⟨ad, hA, hc⟩
  · intro w' hr' hb'
    exact h w' hr'.out hb'

/-- What a call answers that makes bytes anew. -/
def RetB (w : World) (l : List UInt8) (e : Ending) (w' : World) : Prop :=
  ∃ A c, e = .returned (.slice A l.length c) ∧ (A = none → l.length = 0) ∧ l.length ≤ c ∧ c ≤ maxLen ∧ Lies w' A (l.map bv) ∧ Below w.heap.size w w'

theorem ret_own {w0 w : World} {base : Nat} {e : TypeId} {v : Value} {n : Nat} {l : List UInt8} (hown : w.ownsRow base e 1 v n (l.map bv)) (hb : Below w0.heap.size w0 w) : RetB w0 l (.returned v) w := by
  obtain ⟨B, c, rfl, hnc, hcm, _, hl, hlen⟩ := own_shape hown
  rw [List.length_map] at hlen
  subst hlen
  refine ⟨B, c, rfl, ?_, hnc, hcm, hl, hb⟩
  intro hB
  subst hB
  rcases hl with hl | ⟨ad, h, _⟩
  · simpa using hl
  · cases h
end Go.Proofs.YtocodcceimeiiaaDoor

/- A region that draws its order, each of whose operations is shown once: what an operation yields is told by a fact that later worlds keep, so the order does not matter. Over any program. -/









namespace Go.Proofs.YtocodcceimeiiaaDoor

open Go.RowKit

def rdst (ops : Array Oper) (i : Nat) : Option Tmp := (ops[i]?).bind (·.dst)
/-- Operation i waits for operation j. -/
def rpred (ops : Array Oper) (j i : Nat) : Bool := ((ops[i]?).map fun o => o.after.toList.any fun e => Region.binds .any e && e.on == j).getD false

/-- The frame in which those operations of the first n that are marked have left their values. -/
def puts (ops : Array Oper) (m : Nat → Bool) (vs : Nat → Value) : Nat → Act → Act
  | 0, a => a
  | n + 1, a => if m n then (puts ops m vs n a).put (rdst ops n) (vs n) else puts ops m vs n a

/-- What is asked of the region's text: edges lead back; no two operations leave their values at one place; what an operation looks at is left by one that it waits for, or by one that waits for it. -/
def regionOk (ops : Array Oper) (size : Nat) : Bool :=
  (List.range ops.size).all fun i =>
    ((ops[i]?).map fun o =>
      (o.after.all fun e => !Region.binds .any e || decide (e.on < i)) &&
      (match o.op with | .select .. => false | _ => true) &&
      (match o.dst with | some d => decide (d < size) && (List.range ops.size).all (fun j => j == i || rdst ops j != some d) | none => true) &&
      ((o.looksAt ops).all fun d => (List.range ops.size).all fun j => j == i || rdst ops j != some d || rpred ops j i || rpred ops i j)).getD false

section

variable {P : Program} {ops : Array Oper} {Q : Exit → Act → World → Prop}

theorem puts_congr (m m' : Nat → Bool) (vs vs' : Nat → Value) (a : Act) : ∀ n, (∀ j, j < n → m j = m' j) → (∀ j, j < n → m j = true → vs j = vs' j) → puts ops m vs n a = puts ops m' vs' n a := by
  intro n
  induction n with
  | zero => intro _ _; rfl
  | succ n ih =>
    intro h1 h2
    rw [puts, puts, ih (fun j hj => h1 j (by omega)) (fun j hj => h2 j (by omega)), ← h1 n (by omega)]
    by_cases hm : m n = true
    · rw [if_pos hm, if_pos hm, h2 n (by omega) hm]
    · rw [if_neg hm, if_neg hm]

theorem puts_size (m : Nat → Bool) (vs : Nat → Value) (a : Act) : ∀ n, (puts ops m vs n a).tmps.size = a.tmps.size := by
  intro n
  induction n with
  | zero => rfl
  | succ n ih =>
    rw [puts]
    split
    · unfold Act.put; split <;> simp [ih]
    · exact ih

theorem puts_old (m : Nat → Bool) (vs : Nat → Value) (a : Act) (d : Tmp) : ∀ n, (∀ j, j < n → m j = true → rdst ops j ≠ some d) → (puts ops m vs n a).tmps[d]? = a.tmps[d]? := by
  intro n
  induction n with
  | zero => intro _; rfl
  | succ n ih =>
    intro h
    rw [puts]
    split
    · rename_i hm
      rw [← ih fun j hj => h j (by omega)]
      have hne := h n (by omega) hm
      cases hd : rdst ops n with
      | none => rfl
      | some e =>
        rw [hd] at hne
        exact Array.getElem?_setIfInBounds_ne (fun he => hne (by rw [he]))
    · exact ih fun j hj => h j (by omega)

theorem puts_new (m : Nat → Bool) (vs : Nat → Value) (a : Act) (d : Tmp) (i : Nat) (hd : rdst ops i = some d) (hm : m i = true) : ∀ n, i < n → (∀ j, j < n → j ≠ i → rdst ops j ≠ some d) →
    (puts ops m vs n a).tmps[d]? = (a.put (some d) (vs i)).tmps[d]? := by
  intro n
  induction n with
  | zero => intro h; omega
  | succ n ih =>
    intro hi hne
    rw [puts]
    by_cases hin : i = n
    · subst hin
      rw [if_pos hm, hd]
      simp only [Act.put, Array.getElem?_setIfInBounds_self, puts_size]
    · split
      · rw [← ih (by omega) fun j hj => hne j (by omega)]
        have hne' := hne n (by omega) (fun h => hin h.symm)
        cases hd' : rdst ops n with
        | none => rfl
        | some e =>
          rw [hd'] at hne'
          exact Array.getElem?_setIfInBounds_ne (fun he => hne' (by rw [he]))
      · exact ih (by omega) fun j hj => hne j (by omega)

theorem puts_set (m : Nat → Bool) (vs : Nat → Value) (a : Act) (i : Nat) (v : Value) (hm : m i = false) : ∀ n, i < n → (∀ j, j < n → j ≠ i → ∀ d, rdst ops i = some d → rdst ops j ≠ some d) →
    puts ops (fun j => j == i || m j) (fun j => if j = i then v else vs j) n a = (puts ops m vs n a).put (rdst ops i) v := by
  intro n
  induction n with
  | zero => intro h; omega
  | succ n ih =>
    intro hi hne
    show (if (n == i || m n) = true then (puts ops (fun j => j == i || m j) (fun j => if j = i then v else vs j) n a).put (rdst ops n) (if n = i then v else vs n) else puts ops (fun j => j == i || m j) (fun j => if j = i then v else vs j) n a) =
      (if m n = true then (puts ops m vs n a).put (rdst ops n) (vs n) else puts ops m vs n a).put (rdst ops i) v
    by_cases hin : n = i
    · have h0 : puts ops (fun j => j == i || m j) (fun j => if j = i then v else vs j) n a = puts ops m vs n a := by
        refine puts_congr _ _ _ _ a n (fun j hj => ?_) (fun j hj _ => ?_)
        · have : (j == i) = false := by simp; omega
          simp [this]
        · simp; omega
      rw [h0]
      subst hin
      rw [if_pos (by simp), if_pos rfl, if_neg (by simp [hm])]
    · have h1 : (n == i || m n) = m n := by
        have : (n == i) = false := by simp; omega
        simp [this]
      rw [ih (by omega) fun j hj => hne j (by omega), h1, if_neg hin]
      split
      · exact Act.put_comm _ v (vs n) fun d hd => hne n (by omega) hin d hd
      · rfl

/-- An operation in one frame, where in another it yields what a fact tells. -/
theorem wp_carry {o : Oper} {a b : Act} {w : World} {R : Value → World → Prop} {K : Act → World → Prop} (he : execOp a.eval o = execOp b.eval o) (hd : ∀ d, o.dst = some d → d < b.tmps.size)
    (h : o.wp P b w (fun b' w' => ∃ v, b' = b.put o.dst v ∧ R v w') (fun _ _ _ => False)) (hK : ∀ v w', R v w' → K (a.put o.dst v) w') : o.wp P a w K Q := by
  have hv : ∀ u v w', b.put o.dst u = b.put o.dst v → R v w' → K (a.put o.dst u) w' := by
    intro u v w' heq hR
    cases hdst : o.dst with
    | none =>
      have := hK v w' hR
      rw [hdst] at this
      exact this
    | some d =>
      have hlt := hd d hdst
      rw [hdst] at heq
      have h1 : (b.put (some d) u).tmps[d]? = (b.put (some d) v).tmps[d]? := by rw [heq]
      simp only [Act.put, Array.getElem?_setIfInBounds_self, hlt, if_true] at h1
      injection h1 with h1
      subst h1
      have := hK u w' hR
      rw [hdst] at this
      exact this
  unfold Oper.wp at *
  rw [he]
  generalize (execOp b.eval o).run P w = r at *
  cases r with
  | ok n w' =>
    cases n <;> simp only [Oper.upon] at h ⊢
    case value u => obtain ⟨v, h1, h2⟩ := h; exact hv u v w' h1 h2
    case skip => obtain ⟨v, h1, h2⟩ := h; exact hv _ v w' h1 h2
    case defer d =>
      obtain ⟨v, h1, h2⟩ := h
      exfalso
      have h3 : (({ b with defers := d :: b.defers } : Act).put o.dst undef).defers = (b.put o.dst v).defers := by rw [h1]
      have h4 : ∀ (x : Act) (u : Value), (x.put o.dst u).defers = x.defers := by intro x u; unfold Act.put; split <;> rfl
      rw [h4, h4] at h3
      have := congrArg List.length h3
      simp at this
    case enter f args =>
      refine Calls.mono h fun e w'' he => ?_
      cases e with
      | returned u => obtain ⟨v, h1, h2⟩ := he; exact hv u v w'' h1 h2
      | panicked c => exact he.elim
      | outgrown => obtain ⟨_, _, hf⟩ := he; exact hf.elim
    case row row args => exact Rows.mono h fun u w'' ⟨v, h1, h2⟩ => hv u v w'' h1 h2
  | halt x w' =>
    cases x <;> simp only [Oper.upon] at h

/-- What regionOk says, operation by operation. -/
theorem regionOk_at {size i : Nat} {o : Oper} (h : regionOk ops size = true) (ho : ops[i]? = some o) :
    (∀ e ∈ o.after, Region.binds .any e = true → e.on < i) ∧ (∀ cs b, o.op ≠ .select cs b) ∧ (∀ d, o.dst = some d → d < size ∧ ∀ j, j < ops.size → j ≠ i → rdst ops j ≠ some d) ∧
    (∀ d ∈ o.looksAt ops, ∀ j, j < ops.size → j ≠ i → rdst ops j = some d → rpred ops j i = true ∨ rpred ops i j = true) := by
  have hlt : i < ops.size := (Array.getElem?_eq_some_iff.1 ho).1
  unfold regionOk at h
  rw [List.all_eq_true] at h
  have h1 := h i (List.mem_range.2 hlt)
  rw [ho, Option.map_some, Option.getD_some] at h1
  simp only [Bool.and_eq_true] at h1
  obtain ⟨⟨⟨h2, h3⟩, h4⟩, h5⟩ := h1
  refine ⟨fun e he hbd => ?_, fun cs b hs => ?_, fun d hd => ?_, fun d hd j hj hne hdj => ?_⟩
  · rw [Array.all_eq_true_iff_forall_mem] at h2
    have h6 := h2 e he
    rw [hbd, Bool.not_true, Bool.false_or] at h6
    exact of_decide_eq_true h6
  · rw [hs] at h3; cases h3
  · rw [hd] at h4
    simp only [Bool.and_eq_true, List.all_eq_true, decide_eq_true_eq] at h4
    refine ⟨h4.1, fun j hj hne hdj => ?_⟩
    have h6 := h4.2 j (List.mem_range.2 hj)
    rw [hdj] at h6
    simp at h6
    exact hne h6
  · rw [List.all_eq_true] at h5
    have h6 := h5 d hd
    rw [List.all_eq_true] at h6
    have h7 := h6 j (List.mem_range.2 hj)
    rw [hdj] at h7
    simp at h7
    rcases h7 with (h7 | h7) | h7
    · exact absurd h7 hne
    · exact .inl h7
    · exact .inr h7

theorem wanted_congr {o : Oper} {a b : Act} (h : ∀ d ∈ o.looksAt ops, a.tmps[d]? = b.tmps[d]?) : Region.wanted o (yielded ops a.tmps) = Region.wanted o (yielded ops b.tmps) := by
  unfold Region.wanted
  cases hg : o.guard with
  | none => rfl
  | some p =>
    obtain ⟨g, want⟩ := p
    have hy : yielded ops a.tmps g = yielded ops b.tmps g := by
      unfold yielded
      cases hd : (ops[g]?).bind (·.dst) with
      | none => rfl
      | some d =>
        have := h d (List.mem_append_right _ (by rw [hg]; simp [hd]))
        simp only [Option.bind_some, this]
    simp only [hy]

/-- How many operations are still to come. -/
def left (n : Nat) (l : Array Bool) : Nat := ((List.range n).filter fun i => !l.getD i false).length

theorem left_set_in {n : Nat} {l : Array Bool} {i : Nat} (hi : i < n) (hs : n ≤ l.size) (h : l.getD i false = false) : left n (l.setIfInBounds i true) < left n l := by
  unfold left
  have hsub : (List.range n).filter (fun j => !(l.setIfInBounds i true).getD j false) = ((List.range n).filter fun j => !l.getD j false).filter (fun j => !(l.setIfInBounds i true).getD j false) := by
    rw [List.filter_filter]
    refine List.filter_congr fun j hj => ?_
    by_cases hij : i = j
    · subst hij
      have : i < l.size := by omega
      simp [this]
    · rw [getD_set_ne false hij, Bool.and_self]
  rw [hsub]
  have hmem : i ∈ (List.range n).filter fun j => !l.getD j false := List.mem_filter.2 ⟨List.mem_range.2 hi, by rw [h]; rfl⟩
  refine Nat.lt_of_le_of_ne (List.length_filter_le _ _) fun heq => ?_
  have := List.length_filter_eq_length_iff.1 heq i hmem
  have : i < l.size := by omega
  simp_all
theorem puts_cut (mk : Nat → Bool) (vs : Nat → Value) (a : Act) (m : Nat) : ∀ n, m ≤ n → (∀ j, m ≤ j → j < n → mk j = false) → puts ops mk vs n a = puts ops mk vs m a
  | 0, h, _ => by rw [Nat.le_zero.1 h]
  | n + 1, h, hk => by
    by_cases he : m = n + 1
    · subst he; rfl
    · rw [puts, if_neg (by rw [hk n (by omega) (by omega)]; decide), puts_cut mk vs a m n (by omega) fun j h1 h2 => hk j h1 (by omega)]
theorem wpAny_more {md : Region.Mode} : ∀ (f : Nat) (l : Array Bool) (a : Act) (w : World), wpAny P md ops Q f l a w → wpAny P md ops Q (f + 1) l a w
  | 0, _, _, _, h => ⟨fun _ => h.2, fun i hi => by rw [h.1] at hi; cases hi⟩
  | f + 1, l, a, w, h => ⟨h.1, fun i hi => wpOp_mono (fun a' w' h' => wpAny_more f _ a' w' h') (h.2 i hi)⟩
theorem wpAny_add {md : Region.Mode} (f g : Nat) (l : Array Bool) (a : Act) (w : World) (h : wpAny P md ops Q g l a w) : wpAny P md ops Q (f + g) l a w := by
  induction f with
  | zero => rwa [Nat.zero_add]
  | succ f ih => rw [show f + 1 + g = (f + g) + 1 by omega]; exact wpAny_more _ _ _ _ ih
/-- **A region that draws, whose first m operations are each shown once** (the frame: as the text's order gives it); what follows them is shown from where all these have been done. -/
theorem wpAny_region_core {a0 : Act} {w0 : World} (m : Nat) (hm : m ≤ ops.size) (F : Nat → Value → World → Prop)
    (hok : regionOk ops a0.tmps.size = true)
    (hF : ∀ i v w w', F i v w → Below w.heap.size w w' → F i v w')
    (hstep : ∀ i o, i < m → ops[i]? = some o → ∀ (vs : Nat → Value) (w : World), Below w0.heap.size w0 w → (∀ j, rpred ops j i = true → F j (vs j) w) →
      if Region.wanted o (yielded ops (puts ops (fun _ => true) vs i a0).tmps) = true then
        o.wp P (puts ops (fun _ => true) vs i a0) w (fun a' w' => ∃ v, a' = (puts ops (fun _ => true) vs i a0).put o.dst v ∧ F i v w' ∧ Below w.heap.size w w') (fun _ _ _ => False)
      else F i undef w)
    (hwait : ∀ l : Array Bool, HeadInv .any ops m l → (∃ i, i < m ∧ l.getD i true = false) → ∀ t, m ≤ t → t ∉ Region.ready .any ops l)
    (hfin : ∀ (l : Array Bool) (vs : Nat → Value) (w : World), l.size = ops.size → (∀ j, j < m → l.getD j false = true) → (∀ j, m ≤ j → j < ops.size → l.getD j false = false) → Below w0.heap.size w0 w → (∀ i, i < m → F i (vs i) w) →
      wpAny P .any ops Q (ops.size - m) l (puts ops (fun _ => true) vs m a0) w) :
    wpAny P .any ops Q ops.size (Array.replicate ops.size false) a0 { w0 with drawn := w0.drawn + 1 } := by
  have main : ∀ (fuel : Nat) (l : Array Bool) (vs : Nat → Value) (w : World), l.size = ops.size → left m l ≤ fuel → (∀ i j, i < ops.size → l.getD i false = true → rpred ops j i = true → l.getD j false = true) →
      (∀ t, m ≤ t → t < ops.size → l.getD t false = false) →
      (∀ i, i < ops.size → l.getD i false = true → F i (vs i) w) → Below w0.heap.size w0 w → wpAny P .any ops Q (fuel + (ops.size - m)) l (puts ops (fun j => l.getD j false) vs ops.size a0) w := by
    intro fuel
    have hend : ∀ (f : Nat) (l : Array Bool) (vs : Nat → Value) (w : World), l.size = ops.size → (∀ t, m ≤ t → t < ops.size → l.getD t false = false) → (∀ i, i < ops.size → l.getD i false = true → F i (vs i) w) → Below w0.heap.size w0 w → (∀ j, j < m → l.getD j false = true) →
        wpAny P .any ops Q (f + (ops.size - m)) l (puts ops (fun j => l.getD j false) vs ops.size a0) w := by
      intro f l vs w hs htl hfs hb hall
      rw [puts_cut _ vs a0 m ops.size hm htl, puts_congr (fun j => l.getD j false) (fun _ => true) vs vs a0 m hall (fun _ _ _ => rfl)]
      exact wpAny_add _ _ _ _ _ (hfin l vs w hs hall htl hb fun i hi => hfs i (by omega) (hall i hi))
    induction fuel with
    | zero =>
      intro l vs w hs hl hcl htl hfs hb
      refine hend 0 l vs w hs htl hfs hb fun j hj => ?_
      cases h1 : l.getD j false with
      | true => rfl
      | false => have := left_set_in hj (by omega) h1; omega
    | succ fuel ih =>
      intro l vs w hs hl hcl htl hfs hb
      by_cases hall : ∀ j, j < m → l.getD j false = true
      · exact hend _ l vs w hs htl hfs hb hall
      obtain ⟨j0, hj0⟩ := Classical.not_forall.1 hall
      have hj0m : j0 < m := by
        rcases Nat.lt_or_ge j0 m with h | h
        · exact h
        · exact absurd (fun h' => absurd h' (by omega)) hj0
      have hj0f : l.getD j0 false = false := by
        cases h1 : l.getD j0 false with
        | false => rfl
        | true => exact absurd (fun _ => h1) hj0
      have hinv : HeadInv .any ops m l := by
        refine ⟨hs, fun j oj hj hlj e he hbd => ?_, fun t ht ht' => getD_in (by omega) (htl t ht ht')⟩
        refine hcl j e.on (Array.getElem?_eq_some_iff.1 hj).1 hlj ?_
        unfold rpred
        rw [hj, Option.map_some, Option.getD_some, List.any_eq_true]
        exact ⟨e, by simpa using he, by rw [hbd]; simp⟩
      have hwt := hwait l hinv ⟨j0, hj0m, getD_in (by omega) hj0f⟩
      rw [show fuel + 1 + (ops.size - m) = (fuel + (ops.size - m)) + 1 by omega]
      refine ⟨fun hr => ?_, fun i hi => ?_⟩
      · exfalso
        have hallb : ∀ i, i < m → l.getD i false = true := by
          intro i
          induction i using Nat.strongRecOn with
          | ind i ih =>
            intro hi
            by_cases hl : l.getD i false = true
            · exact hl
            · exfalso
              have ho : ops[i]? = some ops[i] := Array.getElem?_eq_getElem (by omega)
              have hok' := regionOk_at hok ho
              have hmem : i ∈ Region.ready .any ops l := mem_ready.2 ⟨by
                have : i < l.size := by omega
                simp [this] at hl ⊢
                exact hl, ops[i], ho, fun e he hbd => ih e.on (hok'.1 e he hbd) (by have := hok'.1 e he hbd; omega)⟩
              rw [hr] at hmem
              cases hmem
        exact absurd (hallb j0 hj0m) (by rw [hj0f]; decide)
      have him : i < m := by
        rcases Nat.lt_or_ge i m with h | h
        · exact h
        · exact absurd hi (hwt i h)
      obtain ⟨h0, o, ho, hpre⟩ := mem_ready.1 hi
      have hlt : i < ops.size := (Array.getElem?_eq_some_iff.1 ho).1
      have h1 : l.getD i false = false := by
        have : i < l.size := by omega
        simp [this] at h0 ⊢
        exact h0
      obtain ⟨hback, hsel, hdst, hlook⟩ := regionOk_at hok ho
      have hpred : ∀ j, rpred ops j i = true → l.getD j false = true ∧ j < i := by
        intro j hj
        unfold rpred at hj
        rw [ho, Option.map_some, Option.getD_some, List.any_eq_true] at hj
        obtain ⟨e, he, hej⟩ := hj
        have he : e ∈ o.after := by simpa using he
        simp at hej
        rw [← hej.2]
        exact ⟨hpre e he hej.1, hback e he hej.1⟩
      have hrd : rdst ops i = o.dst := by unfold rdst; rw [ho]; rfl
      -- what the operation looks at is the same in both frames
      have hsame : ∀ d ∈ o.looksAt ops, (puts ops (fun j => l.getD j false) vs ops.size a0).tmps[d]? = (puts ops (fun _ => true) vs i a0).tmps[d]? := by
        intro d hd
        by_cases hex : ∃ j, j < ops.size ∧ j ≠ i ∧ rdst ops j = some d
        · obtain ⟨j, hj, hne, hjd⟩ := hex
          have hoj : ops[j]? = some ops[j] := Array.getElem?_eq_getElem hj
          have hdj : ops[j].dst = some d := by unfold rdst at hjd; rw [hoj] at hjd; exact hjd
          have huniq : ∀ k, k < ops.size → k ≠ j → rdst ops k ≠ some d := fun k hk hkj => ((regionOk_at hok hoj).2.2.1 d hdj).2 k hk hkj
          rcases hlook d hd j hj hne hjd with hp | hp
          · obtain ⟨hlj, hji⟩ := hpred j hp
            rw [puts_new _ vs a0 d j hjd hlj ops.size hj huniq, puts_new _ vs a0 d j hjd rfl i hji fun k hk => huniq k (by omega)]
          · have hnl : l.getD j false = false := by
              cases hlj : l.getD j false with
              | false => rfl
              | true => exact absurd (hcl j i hj hlj hp) (by rw [h1]; decide)
            have hij : i < j := by
              unfold rpred at hp
              rw [hoj, Option.map_some, Option.getD_some, List.any_eq_true] at hp
              obtain ⟨e, he, hej⟩ := hp
              have he : e ∈ ops[j].after := by simpa using he
              simp at hej
              have := (regionOk_at hok hoj).1 e he hej.1
              omega
            rw [puts_old _ vs a0 d ops.size, puts_old _ vs a0 d i]
            · intro k hk _ hkd
              exact huniq k (by omega) (by omega) hkd
            · intro k hk hlk hkd
              by_cases hkj : k = j
              · subst hkj; rw [hnl] at hlk; cases hlk
              · exact huniq k hk hkj hkd
        · rw [puts_old _ vs a0 d ops.size, puts_old _ vs a0 d i]
          · intro k hk _ hkd; exact hex ⟨k, by omega, by omega, hkd⟩
          · intro k hk hlk hkd
            by_cases hki : k = i
            · subst hki; rw [h1] at hlk; cases hlk
            · exact hex ⟨k, hk, hki, hkd⟩
      have hst := hstep i o him ho vs w hb fun j hj => hfs j (by have := (hpred j hj).2; omega) (hpred j hj).1
      have hwant := wanted_congr hsame
      have hexec : execOp (puts ops (fun j => l.getD j false) vs ops.size a0).eval o = execOp (puts ops (fun _ => true) vs i a0).eval o := by
        refine execOp_congr o hsel fun x hx => ?_
        cases x with
        | tmp d =>
          have hd : d ∈ o.looksAt ops := List.mem_append_left _ (List.mem_filterMap.2 ⟨.tmp d, by simpa using hx, rfl⟩)
          have := hsame d hd
          show (puts ops (fun j => l.getD j false) vs ops.size a0).tmps.getD d undef = (puts ops (fun _ => true) vs i a0).tmps.getD d undef
          rw [Array.getD_eq_getD_getElem?, Array.getD_eq_getD_getElem?, this]
        | _ => rfl
      -- behind it
      have hnext : ∀ v w', F i v w' → Below w.heap.size w w' → wpAny P .any ops Q (fuel + (ops.size - m)) (l.setIfInBounds i true) ((puts ops (fun j => l.getD j false) vs ops.size a0).put o.dst v) w' := by
        intro v w' hv hb'
        have hset := puts_set (ops := ops) (fun j => l.getD j false) vs a0 i v h1 ops.size hlt fun j hj hne d hd => (hdst d (by rw [← hrd]; exact hd)).2 j hj hne
        rw [← hrd, ← hset]
        have hmarks : ∀ j, j < ops.size → (j == i || l.getD j false) = (l.setIfInBounds i true).getD j false := by
          intro j hj
          by_cases hij : i = j
          · subst hij; simp [hs, hlt]
          · rw [getD_set_ne false hij]
            have : (j == i) = false := by simp; omega
            simp [this]
        rw [puts_congr _ (fun j => (l.setIfInBounds i true).getD j false) _ (fun j => if j = i then v else vs j) a0 ops.size hmarks (fun _ _ _ => rfl)]
        refine ih (l.setIfInBounds i true) _ w' (by simp [hs]) (by have := left_set_in him (by omega) h1; omega) ?_ ?_ ?_ (hb.trans (hb'.mono hb.size))
        · intro j k hj hlj hjk
          rw [← hmarks j hj] at hlj
          by_cases hji : j = i
          · subst hji; exact getD_set_true (hpred k hjk).1
          · have : (j == i) = false := by simpa using hji
            rw [this, Bool.false_or] at hlj
            exact getD_set_true (hcl j k hj hlj hjk)
        · intro t ht ht'
          rw [getD_set_ne false (by omega)]
          exact htl t ht ht'
        · intro j hj hlj
          rw [← hmarks j hj] at hlj
          by_cases hji : j = i
          · subst hji; simpa using hv
          · have : (j == i) = false := by simpa using hji
            rw [this, Bool.false_or] at hlj
            simp only [if_neg hji]
            exact hF j _ w w' (hfs j hj hlj) hb'
      unfold wpOp
      rw [ho]
      show if Region.wanted o _ = true then _ else _
      rw [hwant]
      by_cases hw : Region.wanted o (yielded ops (puts ops (fun _ => true) vs i a0).tmps) = true
      · rw [if_pos hw] at hst ⊢
        exact .inl (wp_carry hexec (fun d hd => by rw [puts_size]; exact (hdst d hd).1) hst fun v w' h => hnext v w' h.1 h.2)
      · rw [if_neg hw] at hst ⊢
        exact hnext undef w hst (Below.refl _ _)
  have hinit := main m (Array.replicate ops.size false) (fun _ => undef) { w0 with drawn := w0.drawn + 1 } (by simp) (by unfold left; exact Nat.le_trans (List.length_filter_le _ _) (by simp))
    (fun i j hi h _ => by simp [hi] at h) (fun t _ _ => getD_replicate_false _ _) (fun i hi h => by simp [hi] at h) ⟨rfl, rfl, rfl, Nat.le_refl _, fun _ _ => rfl⟩
  have hz : puts ops (fun j => (Array.replicate ops.size false).getD j false) (fun _ => undef) ops.size a0 = a0 := by
    have : ∀ n, n ≤ ops.size → puts ops (fun j => (Array.replicate ops.size false).getD j false) (fun _ => undef) n a0 = a0 := by
      intro n
      induction n with
      | zero => intro _; rfl
      | succ n ih =>
        intro hn
        have hlt : n < ops.size := by omega
        rw [puts, if_neg (by simp [hlt]), ih (by omega)]
    exact this _ (Nat.le_refl _)
  rw [hz, show m + (ops.size - m) = ops.size by omega] at hinit
  exact hinit

/-- **A region that draws**: each operation is shown once, in the frame that the text's order gives it, knowing of what it waits for; behind the region all facts hold. -/
theorem wpAny_region_facts {a0 : Act} {w0 : World} (F : Nat → Value → World → Prop)
    (hok : regionOk ops a0.tmps.size = true)
    (hF : ∀ i v w w', F i v w → Below w.heap.size w w' → F i v w')
    (hstep : ∀ i o, ops[i]? = some o → ∀ (vs : Nat → Value) (w : World), Below w0.heap.size w0 w → (∀ j, rpred ops j i = true → F j (vs j) w) →
      if Region.wanted o (yielded ops (puts ops (fun _ => true) vs i a0).tmps) = true then
        o.wp P (puts ops (fun _ => true) vs i a0) w (fun a' w' => ∃ v, a' = (puts ops (fun _ => true) vs i a0).put o.dst v ∧ F i v w' ∧ Below w.heap.size w w') (fun _ _ _ => False)
      else F i undef w)
    (hfin : ∀ (vs : Nat → Value) (w : World), Below w0.heap.size w0 w → (∀ i, i < ops.size → F i (vs i) w) → Q .normal (puts ops (fun _ => true) vs ops.size a0) w) :
    wpAny P .any ops Q ops.size (Array.replicate ops.size false) a0 { w0 with drawn := w0.drawn + 1 } := by
  refine wpAny_region_core ops.size (Nat.le_refl _) F hok hF (fun i o _ => hstep i o) (fun l _ _ t ht hr => ?_) fun l vs w hs hall _ hb hf => ?_
  · obtain ⟨_, o, ho, _⟩ := mem_ready.1 hr
    have := (Array.getElem?_eq_some_iff.1 ho).1
    omega
  · rw [Nat.sub_self]
    refine ⟨List.eq_nil_iff_forall_not_mem.2 fun i hi => ?_, hfin vs w hb hf⟩
    obtain ⟨h0, o, ho, _⟩ := mem_ready.1 hi
    have hlt := (Array.getElem?_eq_some_iff.1 ho).1
    have h1 := hall i hlt
    have : i < l.size := by omega
    simp [this] at h0 h1
    rw [h0] at h1
    cases h1
/-- Which operation, of those that i waits for, leaves what lies at place d. -/
def writer (ops : Array Oper) (i d : Nat) : Option Nat := (List.range ops.size).find? fun j => rdst ops j == some d && rpred ops j i

/-- What operation i sees: of what it waits for the values, else the frame as it was. -/
def sees (ops : Array Oper) (vs : Nat → Value) (a0 : Act) (i : Nat) : Operand → Value
  | .tmp d => match writer ops i d with | some j => vs j | none => a0.eval (.tmp d)
  | x => a0.eval x

/-- What is known of what an operation sees. -/
structure RCtx (ops : Array Oper) (F : Nat → Value → World → Prop) (a0 : Act) (i : Nat) (ρ : Operand → Value) (w : World) : Prop where
  const : ∀ v, ρ (.const v) = v
  func : ∀ f, ρ (.func f) = .func (.func f) #[] #[]
  glob : ∀ g, ρ (.global g) = .pointer (some ⟨g, 0, none⟩)
  new : ∀ d j, writer ops i d = some j → F j (ρ (.tmp d)) w
  old : ∀ d v, writer ops i d = none → a0.eval (.tmp d) = v → ρ (.tmp d) = v

/-- An operation yields a value of which R tells. -/
def Gives (P : Program) (o : Oper) (ρ : Operand → Value) (w : World) (R : Value → World → Prop) : Prop :=
  match (execOp ρ o).run P w with
  | .ok (.value v) w' => R v w'
  | .ok .skip w' => R undef w'
  | .ok (.enter f args) w' => Calls P f args w' fun e w'' => ∃ v, e = .returned v ∧ R v w''
  | _ => False

/-- What is to be shown of operation i. -/
def StepAt (P : Program) (ops : Array Oper) (F : Nat → Value → World → Prop) (a0 : Act) (w0 : World) (i : Nat) (o : Oper) : Prop :=
  ∀ (ρ : Operand → Value) (w : World), Below w0.heap.size w0 w → RCtx ops F a0 i ρ w →
    match o.guard with
    | none => Gives P o ρ w fun v w' => F i v w' ∧ Below w.heap.size w w'
    | some (g, b) => ∀ d, rdst ops g = some d → (ρ (.tmp d) = .bool b → Gives P o ρ w fun v w' => F i v w' ∧ Below w.heap.size w w') ∧ (ρ (.tmp d) ≠ .bool b → F i undef w)

def StepsFrom (P : Program) (ops : Array Oper) (F : Nat → Value → World → Prop) (a0 : Act) (w0 : World) : Nat → List Oper → Prop
  | _, [] => True
  | i, o :: r => StepAt P ops F a0 w0 i o ∧ StepsFrom P ops F a0 w0 (i + 1) r

theorem stepsFrom_at {F : Nat → Value → World → Prop} {a0 : Act} {w0 : World} : ∀ (l : List Oper) (k : Nat), StepsFrom P ops F a0 w0 k l → ∀ i o, l[i]? = some o → StepAt P ops F a0 w0 (k + i) o := by
  intro l
  induction l with
  | nil => intro k _ i o h; simp at h
  | cons x l ih =>
    intro k hs i o h
    cases i with
    | zero => simp at h; subst h; exact hs.1
    | succ i =>
      have := ih (k + 1) hs.2 i o (by simpa using h)
      rwa [Nat.add_assoc, Nat.add_comm 1] at this

/-- Guards name an operation that leaves a value, and are waited for. -/
def guardsOk (ops : Array Oper) : Bool :=
  (List.range ops.size).all fun i => ((ops[i]?).map fun o => match o.guard with | none => true | some (g, _) => (rdst ops g).isSome).getD false

theorem wp_of_gives {o : Oper} {a : Act} {ρ : Operand → Value} {w : World} {R : Value → World → Prop} {Q : Exit → Act → World → Prop} (he : execOp a.eval o = execOp ρ o) (h : Gives P o ρ w R) :
    o.wp P a w (fun a' w' => ∃ v, a' = a.put o.dst v ∧ R v w') Q := by
  unfold Gives at h
  unfold Oper.wp
  rw [he]
  generalize (execOp ρ o).run P w = r at *
  cases r with
  | ok n w' =>
    cases n <;> simp only [Oper.upon] at h ⊢
    case value u => exact ⟨u, rfl, h⟩
    case skip => exact ⟨_, rfl, h⟩
    case enter f args =>
      refine Calls.mono h fun e w'' he => ?_
      obtain ⟨v, rfl, hv⟩ := he
      exact ⟨v, rfl, hv⟩
  | halt x w' => cases x <;> simp only [] at h

/-- **A region that draws**, in the form in which it is used: a fact for each operation, a step for each. -/
theorem region_step {a0 : Act} {w0 : World} (F : Nat → Value → World → Prop)
    (hok : regionOk ops a0.tmps.size = true) (hgd : guardsOk ops = true)
    (i : Nat) (o : Oper) (ho : ops[i]? = some o) (hst : StepAt P ops F a0 w0 i o) (vs : Nat → Value) (w : World) (hb : Below w0.heap.size w0 w) (hp : ∀ j, rpred ops j i = true → F j (vs j) w) :
      if Region.wanted o (yielded ops (puts ops (fun _ => true) vs i a0).tmps) = true then
        o.wp P (puts ops (fun _ => true) vs i a0) w (fun a' w' => ∃ v, a' = (puts ops (fun _ => true) vs i a0).put o.dst v ∧ F i v w' ∧ Below w.heap.size w w') (fun _ _ _ => False)
      else F i undef w := by
  have hlt : i < ops.size := (Array.getElem?_eq_some_iff.1 ho).1
  obtain ⟨hback, hsel, hdst, hlook⟩ := regionOk_at hok ho
  have hpi : ∀ j, rpred ops j i = true → j < i := by
    intro j hj
    unfold rpred at hj
    rw [ho, Option.map_some, Option.getD_some, List.any_eq_true] at hj
    obtain ⟨e, he, hej⟩ := hj
    simp at hej
    rw [← hej.2]
    exact hback e (by simpa using he) hej.1
  have hw : ∀ d j, writer ops i d = some j → rdst ops j = some d ∧ rpred ops j i = true ∧ j < ops.size := by
    intro d j h
    have h1 := List.find?_some h
    have h2 := List.mem_of_find?_eq_some h
    simp at h1
    exact ⟨h1.1, h1.2, List.mem_range.1 h2⟩
  have hctx : RCtx ops F a0 i (sees ops vs a0 i) w := by
    refine ⟨fun _ => rfl, fun _ => rfl, fun _ => rfl, fun d j h => ?_, fun d v h hv => ?_⟩
    · show F j (match writer ops i d with | some j => vs j | none => a0.eval (.tmp d)) w
      rw [h]
      exact hp j (hw d j h).2.1
    · show (match writer ops i d with | some j => vs j | none => a0.eval (.tmp d)) = v
      rw [h]
      exact hv
  -- what it looks at is what it sees
  have hsee : ∀ d ∈ o.looksAt ops, (puts ops (fun _ => true) vs i a0).tmps.getD d undef = sees ops vs a0 i (.tmp d) := by
    intro d hd
    show _ = (match writer ops i d with | some j => vs j | none => a0.eval (.tmp d))
    cases hwr : writer ops i d with
    | some j =>
      obtain ⟨h1, h2, h3⟩ := hw d j hwr
      have hoj : ops[j]? = some ops[j] := Array.getElem?_eq_getElem h3
      have hdj : ops[j].dst = some d := by unfold rdst at h1; rw [hoj] at h1; exact h1
      have hu := (regionOk_at hok hoj).2.2.1 d hdj
      have hpn := puts_new (ops := ops) (fun _ => true) vs a0 d j h1 rfl i (hpi j h2) fun k hk => hu.2 k (by omega)
      rw [Array.getD_eq_getD_getElem?, hpn]
      simp [Act.put, hu.1]
    | none =>
      have hno : ∀ j, j < i → rdst ops j ≠ some d := by
        intro j hj hjd
        have h1 := hlook d hd j (by omega) (by omega) hjd
        rcases h1 with h1 | h1
        · have h2 := List.find?_eq_none.1 hwr j (List.mem_range.2 (by omega))
          simp [hjd, h1] at h2
        · have hoj : ops[j]? = some ops[j] := Array.getElem?_eq_getElem (by omega)
          unfold rpred at h1
          rw [hoj, Option.map_some, Option.getD_some, List.any_eq_true] at h1
          obtain ⟨e, he, hej⟩ := h1
          simp at hej
          have := (regionOk_at hok hoj).1 e (by simpa using he) hej.1
          omega
      show _ = a0.tmps.getD d undef
      rw [Array.getD_eq_getD_getElem?, Array.getD_eq_getD_getElem?, puts_old (ops := ops) (fun _ => true) vs a0 d i fun j hj _ => hno j hj]
  have hexec : execOp (puts ops (fun _ => true) vs i a0).eval o = execOp (sees ops vs a0 i) o := by
    refine execOp_congr o hsel fun x hx => ?_
    cases x with
    | tmp d => exact hsee d (List.mem_append_left _ (List.mem_filterMap.2 ⟨.tmp d, by simpa using hx, rfl⟩))
    | _ => rfl
  have h1 := hst (sees ops vs a0 i) w hb hctx
  cases hg : o.guard with
  | none =>
    rw [hg] at h1
    have hwa : Region.wanted o (yielded ops (puts ops (fun _ => true) vs i a0).tmps) = true := by unfold Region.wanted; rw [hg]
    rw [if_pos hwa]
    exact wp_of_gives hexec h1
  | some p =>
    obtain ⟨g, b⟩ := p
    rw [hg] at h1
    have hgo : (rdst ops g).isSome = true := by
      unfold guardsOk at hgd
      rw [List.all_eq_true] at hgd
      have := hgd i (List.mem_range.2 hlt)
      rw [ho, Option.map_some, Option.getD_some, hg] at this
      exact this
    obtain ⟨d, hd⟩ := Option.isSome_iff_exists.1 hgo
    obtain ⟨hyes, hno⟩ := h1 d hd
    have hdl : d ∈ o.looksAt ops := List.mem_append_right _ (by rw [hg]; show d ∈ ((ops[g]?).bind (·.dst)).toList; have : (ops[g]?).bind (·.dst) = some d := hd; rw [this]; simp)
    have hv := hsee d hdl
    by_cases hw : Region.wanted o (yielded ops (puts ops (fun _ => true) vs i a0).tmps) = true
    · rw [if_pos hw]
      refine wp_of_gives hexec (hyes ?_)
      rw [← hv]
      unfold Region.wanted at hw
      rw [hg] at hw
      have hd' : (ops[g]?).bind (·.dst) = some d := hd
      simp only [yielded, hd', Option.bind_some] at hw
      rw [Array.getD_eq_getD_getElem?]
      cases hx : (puts ops (fun _ => true) vs i a0).tmps[d]? with
      | none => rw [hx] at hw; simp at hw
      | some v =>
        rw [hx] at hw
        cases v <;> simp at hw
        subst hw
        rfl
    · rw [if_neg hw]
      refine hno fun h => hw ?_
      rw [← hv, Array.getD_eq_getD_getElem?] at h
      unfold Region.wanted
      rw [hg]
      have hd' : (ops[g]?).bind (·.dst) = some d := hd
      simp only [yielded, hd', Option.bind_some]
      cases hx : (puts ops (fun _ => true) vs i a0).tmps[d]? with
      | none => rw [hx] at h; cases h
      | some v =>
        rw [hx] at h
        have h : v = .bool b := h
        subst h
        simp
theorem stepsFrom_all {F : Nat → Value → World → Prop} {a0 : Act} {w0 : World} (h : StepsFrom P ops F a0 w0 0 ops.toList) (i : Nat) (o : Oper) (ho : ops[i]? = some o) : StepAt P ops F a0 w0 i o := by
  have := stepsFrom_at ops.toList 0 h i o (by simpa using ho)
  simpa using this
theorem wpAny_region_steps {a0 : Act} {w0 : World} (F : Nat → Value → World → Prop)
    (hok : regionOk ops a0.tmps.size = true) (hgd : guardsOk ops = true)
    (hF : ∀ i v w w', F i v w → Below w.heap.size w w' → F i v w')
    (hsteps : StepsFrom P ops F a0 w0 0 ops.toList)
    (hfin : ∀ (vs : Nat → Value) (w : World), Below w0.heap.size w0 w → (∀ i, i < ops.size → F i (vs i) w) → Q .normal (puts ops (fun _ => true) vs ops.size a0) w) :
    wpAny P .any ops Q ops.size (Array.replicate ops.size false) a0 { w0 with drawn := w0.drawn + 1 } :=
  wpAny_region_facts F hok hF (fun i o ho => region_step F hok hgd i o ho (stepsFrom_all hsteps i o ho)) hfin
/-- The tail of such a region waits for all ahead of it, and stands in one order. (n: where it begins.) -/
def forcedB (ops : Array Oper) (n : Nat) : Bool :=
  decide (n < ops.size) && Region.sinkB .any ops n && Region.chainB .any ops n && Region.seqB .any ops (ops.size - n) n ((Array.range ops.size).map fun i => decide (i < n))
theorem mask_eq {l : Array Bool} {n s : Nat} (hs : l.size = s) (h1 : ∀ j, j < n → l.getD j false = true) (h2 : ∀ j, n ≤ j → j < s → l.getD j false = false) : l = (Array.range s).map fun i => decide (i < n) := by
  apply Array.ext
  · simp [hs]
  · intro i hi _
    by_cases h : i < n
    · have := h1 i h
      simp [hi] at this
      simp [this, h]
    · have := h2 i (by omega) (by omega)
      simp [hi] at this
      simp [this, h]
/-- **A region that draws and ends in operations that are forced**: those ahead of them each shown once, by facts that later worlds keep; the others in their order. -/
theorem wpAny_region_tail {a0 : Act} {w0 : World} (n : Nat) (F : Nat → Value → World → Prop)
    (hok : regionOk ops a0.tmps.size = true) (hgd : guardsOk ops = true) (hfo : forcedB ops n = true)
    (hF : ∀ i v w w', F i v w → Below w.heap.size w w' → F i v w')
    (hsteps : StepsFrom P ops F a0 w0 0 (ops.toList.take n))
    (hfin : ∀ (vs : Nat → Value) (w : World), Below w0.heap.size w0 w → (∀ i, i < n → F i (vs i) w) → wpList P ops Q (ops.toList.drop n) (puts ops (fun _ => true) vs n a0) w) :
    wpAny P .any ops Q ops.size (Array.replicate ops.size false) a0 { w0 with drawn := w0.drawn + 1 } := by
  unfold forcedB at hfo
  simp only [Bool.and_eq_true, decide_eq_true_eq] at hfo
  obtain ⟨⟨⟨hn, hsk⟩, hch⟩, hsq⟩ := hfo
  refine wpAny_region_core n (by omega) F hok hF (fun i o hi ho => region_step F hok hgd i o ho ?_) (fun l inv ⟨i, hi, hun⟩ t ht => tail_waits hsk hch hn inv _ i rfl hi hun t ht) fun l vs w hs h1 h2 hb hf => ?_
  · have := stepsFrom_at (ops.toList.take n) 0 hsteps i o (by rw [List.getElem?_take, if_pos hi]; simpa using ho)
    simpa using this
  · rw [mask_eq hs h1 h2]
    have h := wpAny_of_seq (P := P) (ops := ops) (md := .any) (Q' := Q) (ops.toList.drop n) n ((Array.range ops.size).map fun i => decide (i < n)) (puts ops (fun _ => true) vs n a0) w (fun j => by rw [List.getElem?_drop]; simp)
      (by rw [List.length_drop, Array.length_toList]; exact hsq) (hfin vs w hb hf)
    rwa [List.length_drop, Array.length_toList] at h
end

end Go.Proofs.YtocodcceimeiiaaDoor

/- Operations of a region, one by one: what each yields. Over any program. -/











namespace Go.Proofs.YtocodcceimeiiaaDoor

open Go.RowKit

section

variable {P : Program} {o : Oper} {ρ : Operand → Value} {w w' : World} {R : Value → World → Prop}

theorem gives_of {v : Value} (h : (execOp ρ o).run P w = .ok (.value v) w') (hR : R v w') : Gives P o ρ w R := by
  unfold Gives; rw [h]; exact hR
theorem gives_move {x : Operand} {v : Value} (ho : o.op = .move x) (hx : ρ x = v) (hR : R v w) : Gives P o ρ w R := by
  refine gives_of (v := v) (w' := w) ?_ hR
  simp [execOp, ho, hx]
theorem gives_assign {x : Operand} {v : Value} (ho : o.op = .assign x) (hx : ρ x = v) (hR : R v w) : Gives P o ρ w R := by
  refine gives_of (v := v) (w' := w) ?_ hR
  simp [execOp, ho, hx]
theorem gives_convert {s d : TypeId} {x : Operand} {u v : Value} (ho : o.op = .convert s d x) (hx : ρ x = u) (h : (convert s d u).run P w = .ok v w') (hR : R v w') : Gives P o ρ w R := by
  refine gives_of (v := v) (w' := w') ?_ hR
  simp [execOp, ho, hx, h]
theorem gives_slice {t : TypeId} {x : Operand} {lo hi mx : Option Operand} {u v : Value} {lo' hi' mx' : Option Value} (ho : o.op = .slice t x lo hi mx) (hx : ρ x = u) (hlo : lo.map ρ = lo') (hhi : hi.map ρ = hi') (hmx : mx.map ρ = mx')
    (h : (Instr.sliceAt t u lo' hi' mx').run P w = .ok v w') (hR : R v w') : Gives P o ρ w R := by
  refine gives_of (v := v) (w' := w') ?_ hR
  simp [execOp, ho, hx, hlo, hhi, hmx, h]
/-- A call of a Go function, by its contract. -/
theorem gives_call {f : FuncId} {xs : Array Operand} {ts : Array TypeId} {args : Array Value} (ho : o.op = .call { callee := .value (.func f), args := xs, argTypes := ts })
    (hent : ∀ (args : Array Value) (w : World), (callFunc f args).run P w = .ok (.enter f args) w) (hf : ρ (.func f) = .func (.func f) #[] #[]) (ha : xs.map ρ = args)
    (h : Calls P f args w fun e w' => ∃ v, e = .returned v ∧ R v w') : Gives P o ρ w R := by
  have hr : (execOp ρ o).run P w = .ok (.enter f args) w := by
    simp [execOp, ho, resolve, hf, ha, Deferred.ofValue, invoke, hent]
  unfold Gives
  rw [hr]
  exact h
theorem gives_texteq {t t' : TypeId} {x y : Operand} {a b : List UInt8} (ho : o.op = .binOp .eql t x y t') (hx : ρ x = .string ⟨a.toArray⟩) (hy : ρ y = .string ⟨b.toArray⟩) (hR : R (.bool (a == b)) w) : Gives P o ρ w R := by
  refine gives_of (v := .bool (a == b)) (w' := w) ?_ hR
  simp [execOp, ho, hx, hy, go_sem, eqGuard]
theorem gives_textne {t t' : TypeId} {x y : Operand} {a b : List UInt8} (ho : o.op = .binOp .neq t x y t') (hx : ρ x = .string ⟨a.toArray⟩) (hy : ρ y = .string ⟨b.toArray⟩) (hR : R (.bool !(a == b)) w) : Gives P o ρ w R := by
  refine gives_of (v := .bool !(a == b)) (w' := w) ?_ hR
  simp [execOp, ho, hx, hy, go_sem, eqGuard]
theorem gives_inteq {t t' : TypeId} {k : IntKind} {x y : Operand} {a b : Int} (ho : o.op = .binOp .eql t x y t') (hx : ρ x = .int k a) (hy : ρ y = .int k b) (hR : R (.bool (a == b)) w) : Gives P o ρ w R := by
  refine gives_of (v := .bool (a == b)) (w' := w) ?_ hR
  simp [execOp, ho, hx, hy, go_sem, eqGuard]
theorem gives_pick_t {c x y : Operand} {v : Value} (ho : o.op = .pick c x y) (hc : ρ c = .bool true) (hx : ρ x = v) (hR : R v w) : Gives P o ρ w R := by
  refine gives_of (v := v) (w' := w) ?_ hR
  simp [execOp, ho, hc, hx, go_sem]
theorem gives_pick_f {c x y : Operand} {v : Value} (ho : o.op = .pick c x y) (hc : ρ c = .bool false) (hy : ρ y = v) (hR : R v w) : Gives P o ρ w R := by
  refine gives_of (v := v) (w' := w) ?_ hR
  simp [execOp, ho, hc, hy, go_sem]
theorem Elem.size_ {t e : TypeId} {bytes : Nat} {z : Value} (E : Elem P t e bytes z) (w : World) : (sizeOf e).run P w = .ok 1 w := by
  obtain ⟨i, h1, _, h3, _⟩ := E.info
  simp [sizeOf, typeInfo, h1, h3]
/-- x[:h] of a slice. -/
theorem gives_upto {t e : TypeId} {bytes : Nat} {z : Value} (E : Elem P t e bytes z) {x y : Operand} {A : Option Addr} {n c h : Nat} (ho : o.op = .slice t x none (some y) none) (hx : ρ x = .slice A n c) (hy : ρ y = .int .i64 (h : Int)) (hc : h ≤ c)
    (hR : R (.slice A h c) w) : Gives P o ρ w R := by
  refine gives_slice ho hx (lo' := none) rfl (hi' := some (.int .i64 (h : Int))) (by simp [hy]) (mx' := none) rfl (v := .slice A h c) (w' := w) ?_ hR
  have ht := E.under
  have he : P.elem t = e := by simp [Program.elem, ht]
  rw [run_sliceAt_slice w t _ _ _ _ (by rw [he]; exact ht), run_slice_h w t A n c (by rw [he]; exact ht) .i64 (h : Int) (by omega) (by omega), he, E.size_]
  simp [sliced]
  intro _
  cases A <;> simp [Addr.add]
theorem gives_add {t t' : TypeId} {x y : Operand} {a b : Int} (ho : o.op = .binOp .add t x y t') (hx : ρ x = .int .i64 a) (hy : ρ y = .int .i64 b) (h0 : -9223372036854775808 ≤ a + b) (h1 : a + b ≤ 9223372036854775807) (hR : R (.int .i64 (a + b)) w) : Gives P o ρ w R := by
  refine gives_of (v := .int .i64 (a + b)) (w' := w) ?_ hR
  have hw : IntKind.i64.wrap (a + b) = a + b := IntWalk.i64_in _ (by omega)
  simp [execOp, ho, hx, hy, go_sem, hw]
end

/-- What is known of a value, and stays known in later worlds. -/
structure Fact where
  holds : Value → World → Prop
  stays : ∀ v w w', holds v w → Below w.heap.size w w' → holds v w'
def Fact.any : Fact := ⟨fun _ _ => True, fun _ _ _ _ _ => trivial⟩
def Fact.is (u : Value) : Fact := ⟨fun v _ => v = u, fun _ _ _ h _ => h⟩
/-- A slice that holds bytes. -/
def IsB (l : List UInt8) (v : Value) (w : World) : Prop := ∃ A c, v = .slice A l.length c ∧ (A = none → l.length = 0) ∧ l.length ≤ c ∧ c ≤ maxLen ∧ Lies w A (l.map bv)
theorem IsB.below {l : List UInt8} {v : Value} {w w' : World} (h : IsB l v w) (hb : Below w.heap.size w w') : IsB l v w' := by
  obtain ⟨A, c, h1, h2, h3, h4, h5⟩ := h
  exact ⟨A, c, h1, h2, h3, h4, h5.below hb⟩
def Fact.bytes (l : List UInt8) : Fact := ⟨IsB l, fun _ _ _ h hb => h.below hb⟩
def facts (L : List Fact) (i : Nat) : Value → World → Prop := (L.getD i Fact.any).holds

theorem RetB.isB {w w' : World} {l : List UInt8} {e : Ending} (h : RetB w l e w') : ∃ v, e = .returned v ∧ IsB l v w' ∧ Below w.heap.size w w' := by
  obtain ⟨A, c, h1, h2, h3, h4, h5, h6⟩ := h
  exact ⟨_, h1, ⟨A, c, rfl, h2, h3, h4, h5⟩, h6⟩

theorem IsB.text {P : Program} {w : World} {l : List UInt8} {v : Value} (h : IsB l v w) (src e dst : TypeId) (hs : P.underlying src = some (.slice e)) (he : P.underlying e = some (.int .u8)) (hd : P.underlying dst = some .string) :
    (convert src dst v).run P w = .ok (.string ⟨l.toArray⟩) w := by
  obtain ⟨A, c, rfl, _, _, _, h5⟩ := h
  exact run_text w src e dst hs he hd A _ c l rfl h5
/-- The frame behind a region: each operation's value at its place, in the order of the text. -/
def putAll (vs : Nat → Value) : List (Option Tmp) → Nat → Act → Act
  | [], _, a => a
  | d :: r, i, a => putAll vs r (i + 1) (a.put d (vs i))
theorem putAll_snoc (vs : Nat → Value) (d : Option Tmp) : ∀ (l : List (Option Tmp)) (i : Nat) (a : Act), putAll vs (l ++ [d]) i a = (putAll vs l i a).put d (vs (i + l.length)) := by
  intro l
  induction l with
  | nil => intro i a; rfl
  | cons x l ih => intro i a; show putAll vs (l ++ [d]) (i + 1) (a.put x (vs i)) = _; rw [ih]; simp only [putAll, List.length_cons]; congr 2; omega
theorem puts_some (ops : Array Oper) (vs : Nat → Value) (a : Act) : ∀ n, n ≤ ops.size → puts ops (fun _ => true) vs n a = putAll vs ((ops.toList.take n).map (·.dst)) 0 a := by
    intro n
    induction n with
    | zero => intro _; rfl
    | succ n ih =>
      intro hn
      have hlt : n < ops.toList.length := by simp; omega
      rw [puts, if_pos rfl, ih (by omega), List.take_succ_eq_append_getElem hlt, List.map_append, List.map_cons, List.map_nil, putAll_snoc]
      have h1 : rdst ops n = ops.toList[n].dst := by unfold rdst; rw [Array.getElem?_eq_getElem (by omega)]; simp
      have h2 : ((ops.toList.take n).map (·.dst)).length = n := by rw [List.length_map, List.length_take]; omega
      rw [h1, h2, Nat.zero_add]
theorem puts_all (ops : Array Oper) (vs : Nat → Value) (a : Act) : puts ops (fun _ => true) vs ops.size a = putAll vs (ops.toList.map (·.dst)) 0 a := by
  rw [puts_some ops vs a ops.size (Nat.le_refl _), List.take_of_length_le (by simp)]

theorem wpAny_region_list {P : Program} {ops : Array Oper} {Q : Exit → Act → World → Prop} {a0 : Act} {w0 : World} (L : List Fact) (ds : List (Option Tmp))
    (hok : regionOk ops a0.tmps.size = true) (hgd : guardsOk ops = true) (hds : ops.toList.map (·.dst) = ds) (hsteps : StepsFrom P ops (facts L) a0 w0 0 ops.toList)
    (hfin : ∀ (vs : Nat → Value) (w : World), Below w0.heap.size w0 w → (∀ i, i < ds.length → facts L i (vs i) w) → Q .normal (putAll vs ds 0 a0) w) :
    wpAny P .any ops Q ops.size (Array.replicate ops.size false) a0 { w0 with drawn := w0.drawn + 1 } :=
  wpAny_region_steps (facts L) hok hgd (fun i v w w' h hb => (L.getD i Fact.any).stays v w w' h hb) hsteps (fun vs w hb h => by
    subst hds
    rw [puts_all]
    exact hfin vs w hb fun i hi => h i (by simpa using hi))
theorem wp_region_list {P : Program} {ops : Array Oper} {Q : Exit → Act → World → Prop} {id : Nat} {a0 : Act} {w0 : World} (L : List Fact) (ds : List (Option Tmp)) (hm : P.follows .mixedOrders = true)
    (hok : regionOk ops a0.tmps.size = true) (hgd : guardsOk ops = true) (hds : ops.toList.map (·.dst) = ds) (hsteps : StepsFrom P ops (facts L) a0 w0 0 ops.toList)
    (hfin : ∀ (vs : Nat → Value) (w : World), Below w0.heap.size w0 w → (∀ i, i < ds.length → facts L i (vs i) w) → Q .normal (putAll vs ds 0 a0) w) :
    (Code.region id ops true).wp P Q a0 w0 := wp_region_any hm (wpAny_region_list L ds hok hgd hds hsteps hfin)
/-- Such a region whose last operations, from the n-th on, are forced (an append to what the call owns, a store): these are walked. -/
theorem wpAny_region_list_tail {P : Program} {ops : Array Oper} {Q : Exit → Act → World → Prop} {a0 : Act} {w0 : World} (n : Nat) (L : List Fact) (ds : List (Option Tmp))
    (hok : regionOk ops a0.tmps.size = true) (hgd : guardsOk ops = true) (hfo : forcedB ops n = true) (hds : (ops.toList.take n).map (·.dst) = ds) (hsteps : StepsFrom P ops (facts L) a0 w0 0 (ops.toList.take n))
    (hfin : ∀ (vs : Nat → Value) (w : World), Below w0.heap.size w0 w → (∀ i, i < ds.length → facts L i (vs i) w) → wpList P ops Q (ops.toList.drop n) (putAll vs ds 0 a0) w) :
    wpAny P .any ops Q ops.size (Array.replicate ops.size false) a0 { w0 with drawn := w0.drawn + 1 } := by
  have hn : n < ops.size := by
    have h := hfo
    unfold forcedB at h
    simp only [Bool.and_eq_true, decide_eq_true_eq] at h
    exact h.1.1.1
  refine wpAny_region_tail n (facts L) hok hgd hfo (fun i v w w' h hb => (L.getD i Fact.any).stays v w w' h hb) hsteps (fun vs w hb h => ?_)
  subst hds
  rw [puts_some ops vs a0 n (by omega)]
  exact hfin vs w hb fun i hi => h i (by rw [List.length_map, List.length_take] at hi; omega)
theorem wp_region_list_tail {P : Program} {ops : Array Oper} {Q : Exit → Act → World → Prop} {id : Nat} {a0 : Act} {w0 : World} (n : Nat) (L : List Fact) (ds : List (Option Tmp)) (hm : P.follows .mixedOrders = true)
    (hok : regionOk ops a0.tmps.size = true) (hgd : guardsOk ops = true) (hfo : forcedB ops n = true) (hds : (ops.toList.take n).map (·.dst) = ds) (hsteps : StepsFrom P ops (facts L) a0 w0 0 (ops.toList.take n))
    (hfin : ∀ (vs : Nat → Value) (w : World), Below w0.heap.size w0 w → (∀ i, i < ds.length → facts L i (vs i) w) → wpList P ops Q (ops.toList.drop n) (putAll vs ds 0 a0) w) :
    (Code.region id ops true).wp P Q a0 w0 := wp_region_any hm (wpAny_region_list_tail n L ds hok hgd hfo hds hsteps hfin)
end Go.Proofs.YtocodcceimeiiaaDoor

/- From a law's walk to its row: the law answers true and leaves old memory as it was, so each argument reads behind the call as it read before. Over any program. -/















namespace Go.Proofs.YtocodcceimeiiaaDoor

open Go.RowKit Go.ChangeShapes Go.WideShapes Go.ChangeAt

section

variable {H : Type} {enc : TypeId × Value → H} {P : Program}

theorem trodAll_later (hl : laidOutB P = true) {W W' : World} (hb : Below W.heap.size W W') :
    ∀ {ts : List TypeId} {vs : List Value} {ds : List (DataW H)} {ps : List MemPlace}, (ts.all fun t => P.readableRec t && decide (t < P.types.size)) = true →
      DataW.TrodAll enc P W 0 (fun _ => true) true ts vs ds ps → (∀ x ∈ ps, x.block < W.heap.size) → DataW.TrodAll enc P W' 0 (fun b => decide (b < W.heap.size)) true ts vs ds ps
  | [], _, _, _, _, h, _ => by
    obtain ⟨rfl, rfl, rfl⟩ := trodAll_nil h
    exact rfl
  | t :: ts, _, _, _, hr, h, hlt => by
    obtain ⟨v, vs1, d, ds1, a, b, rfl, rfl, rfl, h1, h2⟩ := trodAll_cons h
    simp only [List.all_cons, Bool.and_eq_true, decide_eq_true_eq] at hr
    exact ⟨a, b, Below.trod hl hr.1.1 hr.1.2 h1 hb (fun x hx => hlt x (List.mem_append_left _ hx)), trodAll_later hl hb hr.2 h2 (fun x hx => hlt x (List.mem_append_right _ hx)), rfl⟩

/-- What a law's row asks behind the call. -/
theorem law_post {f : Func} {s : ChangeSpec} {tb : TypeId} {W W' : World} {args : Array Value} {ds : List (DataW H)} {before : List MemPlace} (hl : laidOutB P = true) (htb : P.underlying tb = some .bool)
    (hrt : f.resultTypes = #[tb]) (hpar : (f.params.toList.all fun t => P.readableRec t && decide (t < P.types.size)) = true) (hvars : s.vars = [])
    (hW : DataW.Whole enc P f.params.toList s.vars false W args.toList ds [] before) (hfn : s.fn H (ds ++ []) = { results := [.lit (.bool true)], args := ds }) (hb : Below W.heap.size W W') :
    s.post enc P f false true false false W args (.bool true) W' := by
  obtain ⟨p, q, hA, hV, hpq, hfz, hnd⟩ := hW
  have hW : DataW.Whole enc P f.params.toList s.vars false W args.toList ds [] before := ⟨p, q, hA, hV, hpq, hfz, hnd⟩
  refine ⟨ds, [], before, [], p, [], hW, ?_, ?_, ?_, hb.frame _, fun h => by cases h⟩
  · rw [hfn, hrt]
    exact trodAll_cons_mk (shut_bool htb _) trodAll_mk0
  · rw [hfn]
    exact trodAll_later hl hb hpar hA fun x hx => hW.lt x (by rw [hpq]; exact List.mem_append_left _ hx)
  · rw [hfn, hvars]
    rfl
/-- A slice of whole numbers that came in: the cells, nil let in. -/
theorem open_lies {k : IntKind} {t e : TypeId} {W : World} {v : Value} {d : DataW H} {ps : List MemPlace} {base : Nat} (ht : P.underlying t = some (.slice e)) (he : P.underlying e = some (.int k)) (hc : P.cellsOf e = 1)
    (hval : Value.okWide P W .any base t v) (hd : DataW.Trod enc P W 0 (fun _ => true) true t v d ps) (hlt : ∀ x ∈ ps, x.block < W.heap.size) :
    ∃ (A : Option Addr) (n c : Nat) (zs : List Int), v = .slice A n c ∧ (A = none → n = 0) ∧ zs.length = n ∧ n ≤ c ∧ c ≤ maxLen ∧ Lies W A (zs.map (Value.int k)) ∧ ∀ z ∈ zs, (Lit.int k z).wf = true := by
  obtain ⟨a0, len, cap, rfl⟩ := okWide_slice ht hval
  obtain ⟨fuel, hf⟩ := hd
  rcases open_ints ht he hc hf with ⟨hcs, hx⟩ | ⟨a, len', cap', zs, hcs, _, hl, hm, hz, hx, hcell, hwz⟩
  · simp [Value.cells] at hcs
    obtain ⟨rfl, rfl, rfl⟩ := hcs
    exact ⟨none, 0, 0, [], rfl, by simp, rfl, by omega, by unfold maxLen; omega, Lies.nil, by simp⟩
  · simp [Value.cells] at hcs
    obtain ⟨rfl, rfl, rfl⟩ := hcs
    simp only [Prod.mk.injEq] at hx
    obtain ⟨rfl, rfl⟩ := hx
    simp only [if_true] at hz
    have htl : (zs.take len).length = len := by rw [List.length_take]; omega
    refine ⟨some a, len, cap, zs.take len, rfl, by simp, htl, hl, hm, ?_, fun z hz => hwz z (List.mem_of_mem_take hz)⟩
    by_cases h0 : len = 0
    · subst h0; exact .inl (by simp)
    · refine .inr ⟨a, rfl, ?_, fun j u hu => ?_⟩
      · have hs : a.spot = none := by
          have := hcell 0 (by omega)
          have h1 : a.add 0 = a := by simp [Addr.add]
          rw [h1] at this
          exact World.cell?_spot this
        obtain ⟨b, off, spot⟩ := a
        exact hlt (.cell b off) (MemPlace.mem_row.2 ⟨0, by omega, by simp⟩)
      · rw [List.getElem?_map, List.getElem?_take] at hu
        by_cases hj : j < len
        · rw [if_pos hj] at hu
          have hjl : j < zs.length := by omega
          rw [List.getElem?_eq_getElem hjl] at hu
          simp at hu
          subst hu
          rw [hcell j hjl]
          simp [List.getElem?_eq_getElem hjl]
        · rw [if_neg hj] at hu; simp at hu
theorem stand_ins {P : Program} {ps : Array TypeId} {j : Nat} {t : TypeId} (h : (ps.toList.all fun u => !P.wantsStandIn u) = true) (ht : ps[j]? = some t) : P.wantsStandIn t = false := by
  have := List.all_eq_true.1 h t (by simpa using Array.mem_of_getElem? ht)
  simpa using this
/-- A slice of bytes that came in. -/
theorem open_bytes {t e : TypeId} {W : World} {v : Value} {d : DataW H} {ps : List MemPlace} {base : Nat} (ht : P.underlying t = some (.slice e)) (he : P.underlying e = some (.int .u8)) (hc : P.cellsOf e = 1)
    (hval : Value.okWide P W .any base t v) (hd : DataW.Trod enc P W 0 (fun _ => true) true t v d ps) (hlt : ∀ x ∈ ps, x.block < W.heap.size) :
    ∃ (A : Option Addr) (n c : Nat) (l : List UInt8), v = .slice A n c ∧ (A = none → n = 0) ∧ l.length = n ∧ n ≤ c ∧ c ≤ maxLen ∧ Lies W A (l.map bv) := by
  obtain ⟨A, n, c, zs, h1, h2, h3, h4, h5, h6, h7⟩ := open_lies ht he hc hval hd hlt
  refine ⟨A, n, c, zs.map fun z => UInt8.ofNat z.toNat, h1, h2, by simpa using h3, h4, h5, ?_⟩
  have he : (zs.map fun z => UInt8.ofNat z.toNat).map bv = zs.map (Value.int .u8) := by
    rw [List.map_map]
    refine List.map_congr_left fun z hz => ?_
    have := h7 z hz
    simp [Lit.wf, IntKind.min, IntKind.max, IntKind.signed, IntKind.bits] at this
    show bv (UInt8.ofNat z.toNat) = _
    unfold bv
    congr 1
    simp
    omega
  rw [he]
  exact h6
end

end Go.Proofs.YtocodcceimeiiaaDoor

/- What every law's text of this program uses on its way to the row. -/





namespace Go.Proofs.YtocodcceimeiiaaDoor

open Go.RowKit

theorem wf_i64 {x : Int} (h : (Lit.int .i64 x).wf = true) : -9223372036854775808 ≤ x ∧ x ≤ 9223372036854775807 := by
  simpa [Lit.wf, IntKind.min, IntKind.max, IntKind.signed, IntKind.bits] using h
theorem own : ownKnob Tryd.prog.godebug = none := by kernel_rfl
theorem laidOut : laidOutB Tryd.prog = true := by kernel_rfl
end Go.Proofs.YtocodcceimeiiaaDoor

/- What the contracts of all layers share: endings, bytes and an error that a call answers, slices of the call's own. Over any program but for the last lines. -/



























namespace Go.Proofs.YtocodcceimeiiaaDoor

open Go.RowKit

theorem ret_int {k : IntKind} {a b : Int} (h : a = b) : Ending.returned (.int k a) = .returned (.int k b) := by rw [h]
theorem ret_bool {a b : Bool} (h : a = b) : Ending.returned (.bool a) = .returned (.bool b) := by rw [h]
theorem below_then {a b c : World} (h : Below a.heap.size a b) (k : Below b.heap.size b c) : Below a.heap.size a c := h.trans (k.mono h.size)

/-- Bytes and an error that a call answers. -/
def RetE (w : World) (p : List UInt8 × Int) (e : Ending) (w' : World) : Prop := ∃ v, e = .returned (.tuple #[v, .int .i64 p.2]) ∧ IsB p.1 v w' ∧ Below w.heap.size w w'
theorem isB_nil (w : World) : IsB [] (.slice none 0 0) w := ⟨none, 0, rfl, by simp, by simp, by unfold maxLen; omega, Lies.nil⟩
theorem RetE.nil {w w' : World} (n : Int) (hb : Below w.heap.size w w') : RetE w ([], n) (.returned (.tuple #[.slice none 0 0, .int .i64 n])) w' := ⟨_, rfl, isB_nil _, hb⟩
theorem isB_own {w : World} {base : Nat} {e : TypeId} {v : Value} {n : Nat} {l : List UInt8} (h : w.ownsRow base e 1 v n (l.map bv)) : IsB l v w := by
  obtain ⟨v', h1, h2, _⟩ := (ret_own (w0 := w) (l := l) h (Below.refl _ _)).isB
  injection h1 with h1
  subst h1
  exact h2
/-- The bytes of a constant text, converted: their block bears a mark. -/
theorem isB_mark (w : World) (t : TypeId) (fr : Nat × Nat) (l : List UInt8) (m : Nat) (hl : l.length = m) (hm : m ≤ 1000000) : IsB l (.slice (some ⟨w.heap.size, 0, none⟩) m m) (w.alloc (.cells (l.map bv).toArray t fr)) := by
  subst hl
  refine ⟨_, _, rfl, by simp, Nat.le_refl _, by unfold maxLen; omega, .inr ⟨_, rfl, by simp, fun j u hu => ?_⟩⟩
  have he : (⟨w.heap.size, 0, none⟩ : Addr).add j = ⟨w.heap.size, j, none⟩ := by unfold Addr.add; split <;> simp_all
  rw [he, cell_of_row _ _ j (l.map bv).toArray t fr (heap_alloc_new w _)]
  simpa using hu
theorem Tryd.infoB : (Tryd.prog.info? 5).map (fun i => (i.zero, i.size, i.bytes)) = some (some (bv 0), 1, 1) := by kernel_rfl
theorem elemB : Elem Tryd.prog 22 5 1 (bv 0) := by
  obtain ⟨i0, hi, hz0, hz1, hz2⟩ := info_parts Tryd.infoB
  exact ⟨Tryd.underlying22, rfl, i0, hi, hz0, hz1, hz2⟩
theorem textB {w : World} {l : List UInt8} {v : Value} (h : IsB l v w) : (convert 22 9 v).run Tryd.prog w = .ok (.string ⟨l.toArray⟩) w := h.text _ _ _ Tryd.underlying22 Tryd.underlying5 Tryd.underlying9
/-- Bytes in a row of the call's own. -/
def RetOwn (w : World) (l : List UInt8) (e : Ending) (w' : World) : Prop := ∃ v, e = .returned v ∧ w'.ownsRow w.heap.size 5 1 v l.length (l.map bv) ∧ Below w.heap.size w w'
theorem RetOwn.retB {w w' : World} {l : List UInt8} {e : Ending} (h : RetOwn w l e w') : RetB w l e w' := by
  obtain ⟨v, rfl, h2, h3⟩ := h
  exact ret_own h2 h3
theorem own_of_row {w : World} {g : Nat} {t : TypeId} {xs : List Value} {n base : Nat} (h : Row w g t xs) (hn : xs.length = n) (hb : base ≤ g) (hm : n ≤ 1000100) : w.ownsRow base t 1 (.slice (some ⟨g, 0, none⟩) n n) n xs :=
  ⟨by omega, .inr ⟨g, n, xs.toArray, rfl, hb, h, Nat.le_refl _, by unfold maxLen; omega, by simp [hn], by rw [Nat.mul_one]; exact List.take_of_length_le (by simp [hn])⟩⟩
theorem own_below {w w' : World} {base size n : Nat} {e : TypeId} {v : Value} {xs : List Value} (h : w.ownsRow base e size v n xs) (hb : Below w.heap.size w w') : w'.ownsRow base e size v n xs :=
  ⟨h.1, h.2.elim .inl fun ⟨g, cap, cur, hv, hg, hc, r⟩ => .inr ⟨g, cap, cur, hv, hg, (hb.block g (Array.getElem?_eq_some_iff.1 hc).1).trans hc, r⟩⟩
theorem own_base {w : World} {base base' : Nat} {e : TypeId} {v : Value} {n : Nat} {xs : List Value} (hb : base' ≤ base) (h : w.ownsRow base e 1 v n xs) : w.ownsRow base' e 1 v n xs :=
  ⟨h.1, h.2.imp id fun ⟨g, cap, cur, h1, h2, h3⟩ => ⟨g, cap, cur, h1, Nat.le_trans hb h2, h3⟩⟩
/-- Bytes in a row of the call's own. -/
def OwnB (w : World) (l : List UInt8) (v : Value) (w' : World) : Prop := ∃ n, w'.ownsRow w.heap.size 5 1 v n (l.map bv)
theorem OwnB.isB {w w' : World} {l : List UInt8} {v : Value} (h : OwnB w l v w') : IsB l v w' := h.elim fun _ h => isB_own h
theorem OwnB.nil (w w' : World) : OwnB w [] (.slice none 0 0) w' := ⟨0, World.ownsRow_nil _ _ _ _⟩
theorem OwnB.below {w w1 w2 : World} {l : List UInt8} {v : Value} (h : OwnB w l v w1) (hb : Below w1.heap.size w1 w2) : OwnB w l v w2 := h.elim fun _ h => ⟨_, own_below h hb⟩
theorem OwnB.base {w0 w w' : World} {l : List UInt8} {v : Value} (hb : w0.heap.size ≤ w.heap.size) (h : OwnB w l v w') : OwnB w0 l v w' := h.elim fun _ h => ⟨_, own_base hb h⟩
/-- Bytes in a row of the call's own, and an error. -/
def RetEO (w : World) (p : List UInt8 × Int) (e : Ending) (w' : World) : Prop := ∃ v, e = .returned (.tuple #[v, .int .i64 p.2]) ∧ w'.ownsRow w.heap.size 5 1 v p.1.length (p.1.map bv) ∧ Below w.heap.size w w'
theorem RetEO.e {w w' : World} {p : List UInt8 × Int} {e : Ending} (h : RetEO w p e w') : RetE w p e w' := by
  obtain ⟨v, h1, h2, h3⟩ := h
  exact ⟨v, h1, isB_own h2, h3⟩
theorem RetEO.nil {w w' : World} (n : Int) (hb : Below w.heap.size w w') : RetEO w ([], n) (.returned (.tuple #[.slice none 0 0, .int .i64 n])) w' := ⟨_, rfl, World.ownsRow_nil _ _ _ _, hb⟩
end Go.Proofs.YtocodcceimeiiaaDoor

/- Structs in blocks of their own, and results that lie in cells. Over any program. -/







namespace Go.Proofs.YtocodcceimeiiaaDoor

open Go.RowKit

/-- Two results: the first lies in a block (a struct), the second in a slot. -/
theorem results_row_tmp {P : Program} {fn : Func} {p u : Tmp} {ty : TypeId} (h : fn.results = #[.cell p ty, .tmp u]) (tmps : Array Value) (w : World) (g : Nat) (t : TypeId) (cs : Array Value) (fr : Nat × Nat) (d : TypeDesc) (v : Value)
    (hp : tmps.getD p undef = .pointer (some ⟨g, 0, none⟩)) (hg : w.heap[g]? = some (.cells cs t fr))
    (hu : P.underlying ty = some d) (hd : (match d with | .struct _ | .array _ _ => true | _ => false) = true) (hi : (P.info? ty).map (·.size) = some cs.size) (hv : tmps.getD u undef = v) :
    (results fn tmps).run P w = .ok (.tuple #[.agg cs, v]) w := by
  rw [results_cell_tmp h, hp, hv]
  simp [asAddr, Result.andThen, run_loadVar_row w g t ty cs fr d hg hu hd hi]
section

variable {P : Program} {o : Oper} {ρ : Operand → Value} {w : World} {R : Value → World → Prop}
/-- A load of one cell, of a value in many cells, and a slice literal of one value: as operations of a region. -/
theorem gives_load {t : TypeId} {x : Operand} {p : Addr} {v : Value} {d : TypeDesc} (ho : o.op = .load t x) (hx : ρ x = .pointer (some p)) (hu : P.underlying t = some d) (hd : (match d with | .struct _ | .array _ _ => true | _ => false) = false)
    (hc : w.cell? p = some v) (hR : R v w) : Gives P o ρ w R := by
  refine gives_of (v := v) (w' := w) ?_ hR
  have hl : (loadVar t p).run P w = .ok v w := by
    have ha : (isAgg t).run P w = .ok false w := by
      unfold isAgg
      rw [Sem.run_bind, run_underlying hu]
      cases d <;> first | rfl | cases hd
    simp [loadVar, ha, hc]
  simp [execOp, ho, hx, Instr.loadAt, Instr.sureAddr, hl]
theorem gives_load_row {t t' : TypeId} {x : Operand} {g : Nat} {cs : List Value} {d : TypeDesc} (ho : o.op = .load t x) (hx : ρ x = .pointer (some ⟨g, 0, none⟩)) (hu : P.underlying t = some d) (hd : (match d with | .struct _ | .array _ _ => true | _ => false) = true)
    (hi : (P.info? t).map (·.size) = some cs.length) (hr : Row w g t' cs) (hR : R (.agg cs.toArray) w) : Gives P o ρ w R := by
  refine gives_of (v := .agg cs.toArray) (w' := w) ?_ hR
  have hl := run_loadVar_row w g t' t cs.toArray (0, 0) d hr hu hd (by simpa using hi)
  simp [execOp, ho, hx, Instr.loadAt, Instr.sureAddr, hl]
end

end Go.Proofs.YtocodcceimeiiaaDoor

/- The library's contract of math/bits.Len64, laid at this program's numbers. -/





namespace Go.Proofs

open Go.Shelf
def Tryd.lays129_ren : Go.Shelf.Ren := ⟨fun | 129 => 60 | n => n, fun | 53 => 47 | 3 => 3 | 4 => 4 | 46 => 73 | 5 => 5 | 9 => 9 | n => n, fun | n => n⟩
theorem Tryd.lays129 : Go.Proofs.Lays.n129 Tryd.prog Tryd.lays129_ren := {
  mixed := by kernel_rfl
  f129 := Tryd.func60.trans (congrArg some (by kernel_rfl))
  t3 := Tryd.underlying3
  a3 := Tryd.isAgg3
  z3 := Tryd.sizeOf3
  v3 := Tryd.zeroValue3
  t4 := Tryd.underlying4
  a4 := Tryd.isAgg4
  z4 := Tryd.sizeOf4
  v4 := Tryd.zeroValue4
  t5 := Tryd.underlying5
  a5 := Tryd.isAgg5
  z5 := Tryd.sizeOf5
  v5 := Tryd.zeroValue5
  t9 := Tryd.underlying9
  a9 := Tryd.isAgg9
  z9 := Tryd.sizeOf9
  v9 := Tryd.zeroValue9
  t46 := Tryd.underlying73
  a46 := Tryd.isAgg73
  z46 := Tryd.sizeOf73
  v46 := Tryd.zeroValue73
  t53 := Tryd.underlying47
  a53 := Tryd.isAgg47
  z53 := Tryd.sizeOf47
  v53 := Tryd.zeroValue47 }
theorem Tryd.bits_Len64 (x : Int) (w : World) (h0 : 0 ≤ x) (h1 : x ≤ 18446744073709551615) :
    Calls Tryd.prog 60 #[.int .u64 x] w fun e w' => e = .returned (.int .i64 (Lib.bitLen x.toNat)) ∧ w' = w := Any.bits_Len64 Tryd.lays129 x w h0 h1
end Go.Proofs

/- Package-level tables: from what a row lists of a variable to the block in which it lies. Over any program. -/















namespace Go.Proofs.YtocodcceimeiiaaDoor

open Go.RowKit Go.ChangeShapes Go.WideShapes Go.ChangeAt

end Go.Proofs.YtocodcceimeiiaaDoor

/- Bits packed one behind the other, as plain mathematics: a row of bytes, and a row of numbers of one width, each as one number. -/

namespace Go.Proofs.YtocodcceimeiiaaDoor

end Go.Proofs.YtocodcceimeiiaaDoor

/- Bits of bytes in a walk: what layers 3 and 6 share. Over any program. -/





namespace Go.Proofs.YtocodcceimeiiaaDoor

open Go.RowKit

end Go.Proofs.YtocodcceimeiiaaDoor

/- Numbers laid down in as few bytes as they need, as plain functions on lists of bytes, and what follows of them. No program is named here. -/



namespace Go.Proofs.YtocodcceimeiiaaDoor

/-- The bytes of a number: seven bits a byte, the lowest first (f: at least as many steps as are wanted). -/
def vputF : Nat → Nat → List UInt8
  | 0, x => [UInt8.ofNat x]
  | f + 1, x => if x < 128 then [UInt8.ofNat x] else UInt8.ofNat (x % 128 + 128) :: vputF f (x / 128)
def vput (x : Nat) : List UInt8 := vputF x x

/-- May a number's last byte be c at place i? -/
def vend (i c : Nat) : Bool := if i = 9 then c == 1 else c != 0 || i == 0

/-- What is read off the front of bytes, at place i. -/
def vgo : Nat → List UInt8 → Option (Nat × List UInt8)
  | _, [] => none
  | i, c :: r => if c.toNat < 128 then (if vend i c.toNat = true then some (c.toNat, r) else none) else if 9 ≤ i then none else (vgo (i + 1) r).map fun p => (c.toNat - 128 + 128 * p.1, p.2)

def vtake (l : List UInt8) : Option (Nat × List UInt8) := vgo 0 l

theorem vputF_any : ∀ (f g x : Nat), x ≤ f → x ≤ g → vputF f x = vputF g x := by
  intro f
  induction f with
  | zero =>
    intro g x hf _
    obtain rfl : x = 0 := by omega
    cases g with
    | zero => rfl
    | succ g => show [UInt8.ofNat 0] = if 0 < 128 then _ else _; rw [if_pos (by omega)]
  | succ f ih =>
    intro g x hf hg
    cases g with
    | zero =>
      obtain rfl : x = 0 := by omega
      show (if 0 < 128 then _ else _) = [UInt8.ofNat 0]; rw [if_pos (by omega)]
    | succ g =>
      show (if x < 128 then _ else _) = (if x < 128 then _ else _)
      by_cases h : x < 128
      · rw [if_pos h, if_pos h]
      · rw [if_neg h, if_neg h, ih g (x / 128) (by omega) (by omega)]
theorem vput_lt {x : Nat} (h : x < 128) : vput x = [UInt8.ofNat x] := by
  unfold vput
  cases x with
  | zero => rfl
  | succ n => show (if n + 1 < 128 then _ else _) = _; rw [if_pos h]
theorem vput_ge {x : Nat} (h : 128 ≤ x) : vput x = UInt8.ofNat (x % 128 + 128) :: vput (x / 128) := by
  unfold vput
  cases x with
  | zero => omega
  | succ n =>
    show (if n + 1 < 128 then _ else _) = _
    rw [if_neg (by omega), vputF_any n ((n + 1) / 128) ((n + 1) / 128) (by omega) (by omega)]
theorem vput_len_pos (x : Nat) : 1 ≤ (vput x).length := by
  by_cases h : x < 128
  · rw [vput_lt h]; simp
  · rw [vput_ge (by omega)]; simp

/-- n bytes are enough just below 128 ^ n. -/
theorem vput_len_le (n : Nat) : ∀ x, x < 128 ^ (n + 1) → (vput x).length ≤ n + 1 := by
  induction n with
  | zero => intro x h; rw [vput_lt (by simpa using h)]; simp
  | succ n ih =>
    intro x h
    by_cases hx : x < 128
    · rw [vput_lt hx]; simp
    · rw [vput_ge (by omega), List.length_cons]
      have := ih (x / 128) (by rw [Nat.pow_succ] at h; omega)
      omega
theorem vput_len_10 {x : Nat} (h : x < 18446744073709551616) : (vput x).length ≤ 10 := vput_len_le 9 x (by
  have : (128 : Nat) ^ 10 = 1180591620717411303424 := by decide
  show x < 128 ^ 10
  omega)

/-- The k-th byte, if it is not the last. -/
theorem vput_drop (k : Nat) : ∀ x, k < (vput x).length → (vput x).drop k = vput (x / 128 ^ k) := by
  induction k with
  | zero => intro x _; simp
  | succ k ih =>
    intro x h
    by_cases hx : x < 128
    · rw [vput_lt hx] at h; simp at h
    · rw [vput_ge (by omega)] at h ⊢
      rw [List.drop_succ_cons, ih _ (by simpa using h), Nat.div_div_eq_div_mul, Nat.pow_succ, Nat.mul_comm]
theorem vput_getElem (k x : Nat) (h : k + 1 < (vput x).length) : (vput x)[k]'(by omega) = UInt8.ofNat (x / 128 ^ k % 128 + 128) ∧ 128 ≤ x / 128 ^ k := by
  have hd := vput_drop k x (by omega)
  have hx : 128 ≤ x / 128 ^ k := by
    by_cases hx : x / 128 ^ k < 128
    · rw [vput_lt hx] at hd
      have := congrArg List.length hd
      simp at this
      omega
    · omega
  refine ⟨?_, hx⟩
  rw [vput_ge hx, List.drop_eq_getElem_cons (by omega)] at hd
  injection hd
theorem vput_last (k x : Nat) (h : k + 1 = (vput x).length) : (vput x)[k]'(by omega) = UInt8.ofNat (x / 128 ^ k) ∧ x / 128 ^ k < 128 := by
  have hd := vput_drop k x (by omega)
  have hx : x / 128 ^ k < 128 := by
    by_cases hx : x / 128 ^ k < 128
    · exact hx
    · rw [vput_ge (x := x / 128 ^ k) (by omega)] at hd
      have h1 := congrArg List.length hd
      have h2 := vput_len_pos (x / 128 ^ k / 128)
      rw [List.length_drop, List.length_cons] at h1
      omega
  refine ⟨?_, hx⟩
  rw [vput_lt hx, List.drop_eq_getElem_cons (by omega)] at hd
  injection hd

theorem vput_take_last (j x : Nat) (h : j + 1 = (vput x).length) : (vput x).take j ++ [UInt8.ofNat (x / 128 ^ j)] = vput x := by
  obtain ⟨h4, _⟩ := vput_last j x h
  have h8 := List.take_succ_eq_append_getElem (l := vput x) (i := j) (by omega)
  rw [List.take_of_length_le (by omega), h4] at h8
  exact h8.symm

theorem bitLen_or_one {y : Nat} (h0 : y ≠ 0) (h : y < 2 ^ 64) : Lib.bitLen (y ||| 1) = Lib.bitLen y := by
  have h2 : (y ||| 1) / 2 = y / 2 := by
    have h3 : (y ||| 1) >>> 1 = y >>> 1 := by
      rw [Nat.shiftRight_or_distrib]; simp
    simpa [Nat.shiftRight_succ] using h3
  have h4 : y ||| 1 < 2 ^ 64 := Nat.or_lt_two_pow h (by decide)
  have h5 : y ||| 1 ≠ 0 := by
    intro h6
    have := Nat.left_le_or (n := y) (m := 1)
    omega
  rw [Lib.bitLen_half _ h5 h4, Lib.bitLen_half _ h0 h, h2]

theorem bitLen_small : ∀ n : Fin 128, (Lib.bitLen (n.val ||| 1) + 6) / 7 = 1 := by decide +kernel

theorem bitLen_vput (x : Nat) : x < 2 ^ 64 → (Lib.bitLen (x ||| 1) + 6) / 7 = (vput x).length := by
  induction x using Nat.strongRecOn with
  | ind x ih =>
    intro hx
    by_cases h : x < 128
    · rw [vput_lt h]; exact bitLen_small ⟨x, h⟩
    · rw [vput_ge (by omega), List.length_cons, ← ih (x / 128) (by omega) (by omega), bitLen_or_one (by omega) hx, bitLen_or_one (by omega) (by omega),
        Lib.bitLen_shift 7 x (by omega) hx]
      show (7 + Lib.bitLen (x / 128) + 6) / 7 = _
      omega

/-- The number that bytes come to, seven bits a byte. -/
def vsum : List UInt8 → Nat
  | [] => 0
  | c :: r => c.toNat % 128 + 128 * vsum r
theorem vsum_put (x : Nat) : vsum (vput x) = x := by
  induction x using Nat.strongRecOn with
  | ind x ih =>
    by_cases h : x < 128
    · rw [vput_lt h]; simp [vsum]; omega
    · rw [vput_ge (by omega), vsum, ih (x / 128) (by omega)]; simp; omega
theorem vsum_append (a b : List UInt8) : vsum (a ++ b) = vsum a + 128 ^ a.length * vsum b := by
  induction a with
  | nil => simp [vsum]
  | cons c a ih => simp only [List.cons_append, vsum, ih, List.length_cons, Nat.pow_succ, Nat.mul_add, Nat.mul_comm (128 ^ a.length) 128, Nat.mul_assoc]; omega
theorem vsum_lt (a : List UInt8) : vsum a < 128 ^ a.length := by
  induction a with
  | nil => simp [vsum]
  | cons c a ih => simp only [vsum, List.length_cons, Nat.pow_succ]; omega

/-- All bytes but the last have their highest bit. -/
theorem vput_high (x k : Nat) (h : k + 1 < (vput x).length) : 128 ≤ ((vput x)[k]'(by omega)).toNat := by
  have h2 := (vput_getElem k x h).1
  rw [h2]
  simp
  omega

theorem pow_le_of_lt {i x : Nat} (h : x * 128 ^ i < 18446744073709551616) (hx : 128 ≤ x) : i ≤ 8 := by
  by_cases hi : 9 ≤ i
  · have h1 : (128 : Nat) ^ 9 ≤ 128 ^ i := Nat.pow_le_pow_right (by omega) hi
    have h2 : (128 : Nat) ^ 9 = 9223372036854775808 := by decide
    have h3 : 128 * 9223372036854775808 ≤ x * 128 ^ i := Nat.mul_le_mul hx (by omega)
    omega
  · omega

/-- What was put is taken as it was. -/
theorem vgo_put (r : List UInt8) (x : Nat) : ∀ i, i ≤ 9 → x * 128 ^ i < 18446744073709551616 → (i = 0 ∨ x ≠ 0) → vgo i (vput x ++ r) = some (x, r) := by
  induction x using Nat.strongRecOn with
  | ind x ih =>
    intro i hi hx h0
    by_cases h : x < 128
    · rw [vput_lt h]
      have h1 : (UInt8.ofNat x).toNat = x := by simp; omega
      have h2 : vend i x = true := by
        unfold vend
        by_cases h9 : i = 9
        · subst h9
          rw [if_pos rfl]
          have h2 : (128 : Nat) ^ 9 = 9223372036854775808 := by decide
          rw [h2] at hx
          have : x = 1 := by omega
          simp [this]
        · rw [if_neg h9]
          simp; omega
      simp only [List.cons_append, List.nil_append, vgo, h1, if_pos h, if_pos h2]
    · have h8 := pow_le_of_lt hx (by omega)
      rw [vput_ge (by omega)]
      have h1 : (UInt8.ofNat (x % 128 + 128)).toNat = x % 128 + 128 := by simp; omega
      have h3 : x / 128 * 128 ^ (i + 1) < 18446744073709551616 := by
        rw [Nat.pow_succ, Nat.mul_comm (128 ^ i) 128, ← Nat.mul_assoc]
        exact Nat.lt_of_le_of_lt (Nat.mul_le_mul_right _ (by omega)) hx
      simp only [List.cons_append, vgo, h1, if_neg (show ¬ x % 128 + 128 < 128 by omega), if_neg (show ¬ 9 ≤ i by omega), ih (x / 128) (by omega) (i + 1) (by omega) h3 (by omega), Option.map_some]
      congr 2
      omega
theorem vtake_put {x : Nat} (h : x < 18446744073709551616) (r : List UInt8) : vtake (vput x ++ r) = some (x, r) := vgo_put r x 0 (by omega) (by simpa using h) (.inl rfl)

/-- What is taken stands there as it is put. -/
theorem vgo_some : ∀ (l : List UInt8) (i x : Nat) (r : List UInt8), i ≤ 9 → vgo i l = some (x, r) → l = vput x ++ r ∧ x * 128 ^ i < 18446744073709551616 ∧ (i = 0 ∨ x ≠ 0) := by
  intro l
  induction l with
  | nil => intro i x r _ h; simp [vgo] at h
  | cons c l ih =>
    intro i x r hi h
    rw [vgo] at h
    have hc := c.toNat_lt
    by_cases h1 : c.toNat < 128
    · rw [if_pos h1] at h
      by_cases h2 : vend i c.toNat = true
      · rw [if_pos h2] at h
        injection h with h
        injection h with hx hr
        subst hx hr
        refine ⟨by rw [vput_lt h1]; simp, ?_, ?_⟩
        · unfold vend at h2
          by_cases h9 : i = 9
          · subst h9
            rw [if_pos rfl] at h2
            have h3 : c.toNat = 1 := by simpa using h2
            rw [h3]
            decide
          · have h4 : (128 : Nat) ^ i ≤ 128 ^ 8 := Nat.pow_le_pow_right (by omega) (by omega)
            have h5 : (128 : Nat) ^ 8 = 72057594037927936 := by decide
            have h6 : c.toNat * 128 ^ i ≤ 127 * 72057594037927936 := Nat.mul_le_mul (by omega) (by omega)
            omega
        · unfold vend at h2
          by_cases h9 : i = 9
          · subst h9
            rw [if_pos rfl] at h2
            have h3 : c.toNat = 1 := by simpa using h2
            omega
          · rw [if_neg h9] at h2
            simp at h2
            omega
      · rw [if_neg h2] at h; cases h
    · rw [if_neg h1] at h
      by_cases h9 : 9 ≤ i
      · rw [if_pos h9] at h; cases h
      · rw [if_neg h9] at h
        cases h3 : vgo (i + 1) l with
        | none => rw [h3] at h; simp at h
        | some p =>
          obtain ⟨x', r'⟩ := p
          rw [h3] at h
          simp at h
          obtain ⟨hx, rfl⟩ := h
          obtain ⟨hl, hb, h0⟩ := ih (i + 1) x' r' (by omega) h3
          have hx0 : x' ≠ 0 := by omega
          refine ⟨?_, ?_, by omega⟩
          · rw [vput_ge (by omega), show x / 128 = x' by omega, List.cons_append, ← hl]
            congr 1
            apply UInt8.toNat_inj.1
            simp
            omega
          · have hp : (128 : Nat) ^ (i + 1) * 128 ^ (8 - i) = 9223372036854775808 := by
              rw [← Nat.pow_add, show i + 1 + (8 - i) = 9 by omega]
            have hq : 18446744073709551616 = 128 ^ (i + 1) * (128 ^ (8 - i) * 2) := by rw [← Nat.mul_assoc, hp]
            have h5 : x' + 1 ≤ 128 ^ (8 - i) * 2 := by
              rw [hq, Nat.mul_comm] at hb
              exact Nat.lt_of_mul_lt_mul_left hb
            have h6 : x * 128 ^ i < (x' + 1) * 128 ^ (i + 1) := by
              rw [Nat.pow_succ, Nat.mul_comm (128 ^ i) 128, ← Nat.mul_assoc]
              exact Nat.mul_lt_mul_of_pos_right (by omega) (Nat.pow_pos (by omega))
            have h7 : (x' + 1) * 128 ^ (i + 1) ≤ 18446744073709551616 := by
              rw [hq, Nat.mul_comm]; exact Nat.mul_le_mul_left _ h5
            omega
theorem vtake_some {l : List UInt8} {x : Nat} {r : List UInt8} (h : vtake l = some (x, r)) : l = vput x ++ r ∧ x < 18446744073709551616 := by
  obtain ⟨h1, h2, _⟩ := vgo_some l 0 x r (by omega) h
  exact ⟨h1, by simpa using h2⟩
/-- Where the numbers' bytes end: the loop's place n is one behind which nothing more can belong to the number. -/
def vstops (l : List UInt8) (n : Nat) : Prop := n ≤ 9 ∧ n ≤ l.length ∧ (∀ j (h : j < l.length), j < n → 128 ≤ l[j].toNat) ∧ (n = 9 ∨ ∀ h : n < l.length, l[n].toNat < 128)

theorem vput_ends {l : List UInt8} {n x : Nat} {r : List UInt8} (hs : vstops l n) (hl : l = vput x ++ r) (hx : x < 18446744073709551616) : n + 1 = (vput x).length := by
  obtain ⟨h9, hn, hlo, hhi⟩ := hs
  have h10 := vput_len_10 hx
  have hp := vput_len_pos x
  rcases Nat.lt_trichotomy (n + 1) (vput x).length with h | h | h
  · exfalso
    have h1 := vput_high x n h
    have hll : n < l.length := by rw [hl, List.length_append]; omega
    have h2 : l[n]'hll = (vput x)[n]'(by omega) := by simp only [hl]; exact List.getElem_append_left (by omega)
    rcases hhi with hhi | hhi
    · omega
    · have := hhi hll
      rw [h2] at this
      omega
  · exact h
  · exfalso
    have hll : (vput x).length - 1 < l.length := by rw [hl, List.length_append]; omega
    have h1 := hlo ((vput x).length - 1) hll (by omega)
    have h2 : l[(vput x).length - 1]'hll = (vput x)[(vput x).length - 1]'(by omega) := by simp only [hl]; exact List.getElem_append_left (by omega)
    obtain ⟨h3, h4⟩ := vput_last ((vput x).length - 1) x (by omega)
    rw [h2, h3] at h1
    generalize x / 128 ^ ((vput x).length - 1) = d at h1 h4
    simp at h1
    omega

/-- The reference's way to take: no byte ends the number. -/
theorem vtake_short {l : List UInt8} {n : Nat} (hs : vstops l n) (hn : l.length ≤ n) : vtake l = none := by
  cases h : vtake l with
  | none => rfl
  | some p =>
    obtain ⟨x, r⟩ := p
    obtain ⟨h1, h2⟩ := vtake_some h
    have h3 := vput_ends hs h1 h2
    have h4 := congrArg List.length h1
    rw [List.length_append] at h4
    omega
/-- .. what stands there is not what is put. -/
theorem vtake_other {l : List UInt8} {n : Nat} (hs : vstops l n) (hne : vput (vsum (l.take (n + 1)) % 18446744073709551616) ≠ l.take (n + 1)) : vtake l = none := by
  cases h : vtake l with
  | none => rfl
  | some p =>
    obtain ⟨x, r⟩ := p
    obtain ⟨h1, h2⟩ := vtake_some h
    have h3 := vput_ends hs h1 h2
    exfalso
    apply hne
    rw [h1, h3, List.take_left, vsum_put, Nat.mod_eq_of_lt h2]
/-- .. it is. -/
theorem vtake_same {l : List UInt8} {n : Nat} (he : vput (vsum (l.take (n + 1)) % 18446744073709551616) = l.take (n + 1)) :
    vtake l = some (vsum (l.take (n + 1)) % 18446744073709551616, l.drop (n + 1)) := by
  have h := vtake_put (x := vsum (l.take (n + 1)) % 18446744073709551616) (Nat.mod_lt _ (by omega)) (l.drop (n + 1))
  rw [he, List.take_append_drop] at h
  exact h

/-- The program's way to take: k bytes with their highest bit are read. -/
theorem vtake_step : ∀ (k : Nat) (l : List UInt8), k ≤ 9 → k ≤ l.length → (∀ j (h : j < l.length), j < k → 128 ≤ l[j].toNat) →
    vtake l = (vgo k (l.drop k)).map fun p => (vsum (l.take k) + 128 ^ k * p.1, p.2) := by
  intro k
  induction k with
  | zero => intro l _ _ _; simp only [List.drop_zero, List.take_zero, vsum, vtake]; cases vgo 0 l <;> simp
  | succ k ih =>
    intro l h9 hl hhi
    rw [ih l (by omega) (by omega) (fun j h hj => hhi j h (by omega))]
    have hk : k < l.length := by omega
    have h1 := hhi k hk (by omega)
    have hc := (l[k]).toNat_lt
    rw [List.drop_eq_getElem_cons hk, vgo, if_neg (by omega), if_neg (by omega), List.take_succ_eq_append_getElem hk, vsum_append, List.length_take, Nat.min_eq_left (by omega)]
    cases vgo (k + 1) (l.drop (k + 1)) with
    | none => rfl
    | some p =>
      simp only [Option.map_some, vsum, Option.some.injEq, Prod.mk.injEq, and_true, Nat.pow_succ, Nat.mul_add, Nat.mul_zero, Nat.add_zero]
      rw [show l[k].toNat % 128 = l[k].toNat - 128 by omega, ← Nat.mul_assoc (128 ^ k)]
      omega
theorem vtake_end {l : List UInt8} {k : Nat} (h9 : k ≤ 9) (hl : k < l.length) (hhi : ∀ j (h : j < l.length), j < k → 128 ≤ l[j].toNat) (hlo : l[k].toNat < 128) :
    vtake l = if vend k l[k].toNat = true then some (vsum (l.take k) + 128 ^ k * l[k].toNat, l.drop (k + 1)) else none := by
  rw [vtake_step k l h9 (by omega) hhi, List.drop_eq_getElem_cons hl, vgo, if_pos hlo]
  split <;> rfl
theorem vtake_long {l : List UInt8} (hl : 10 ≤ l.length) (hhi : ∀ j (h : j < l.length), j < 10 → 128 ≤ l[j].toNat) : vtake l = none := by
  have h1 := hhi 9 (by omega) (by omega)
  rw [vtake_step 9 l (by omega) (by omega) (fun j h hj => hhi j h (by omega)), List.drop_eq_getElem_cons (by omega), vgo, if_neg (by omega), if_pos (by omega)]
  rfl
theorem vtake_all {l : List UInt8} (hl : l.length < 10) (hhi : ∀ j (h : j < l.length), 128 ≤ l[j].toNat) : vtake l = none := by
  rw [vtake_step l.length l (by omega) (by omega) (fun j h _ => hhi j h)]
  simp [vgo]
end Go.Proofs.YtocodcceimeiiaaDoor

/- Numbers made ones that are not below 0, and back: the plain mathematics (varint). -/

namespace Go.Proofs.YtocodcceimeiiaaDoor

/-- A number made one that is not below 0, and back. -/
def vzig (x : Int) : Int := if x < 0 then -2 * x - 1 else 2 * x
def vzag (u : Int) : Int := if u % 2 = 1 then -(u / 2) - 1 else u / 2
theorem vzig_neg {x : Int} (h : x < 0) : vzig x = -2 * x - 1 := if_pos h
theorem vzig_pos {x : Int} (h : 0 ≤ x) : vzig x = 2 * x := if_neg (by omega)
theorem vzag_odd {u : Int} (h : u % 2 = 1) : vzag u = -(u / 2) - 1 := if_pos h
theorem vzag_even {u : Int} (h : u % 2 = 0) : vzag u = u / 2 := if_neg (by omega)
theorem vzig_bd {x : Int} (h0 : -9223372036854775808 ≤ x) (h1 : x ≤ 9223372036854775807) : 0 ≤ vzig x ∧ vzig x < 18446744073709551616 := by unfold vzig; split <;> omega
theorem vzag_bd {u : Int} (h0 : 0 ≤ u) (h1 : u < 18446744073709551616) : -9223372036854775808 ≤ vzag u ∧ vzag u ≤ 9223372036854775807 := by unfold vzag; split <;> omega
theorem vzag_vzig (x : Int) : vzag (vzig x) = x := by unfold vzag vzig; split <;> split <;> omega
theorem vzig_vzag {u : Int} (h : 0 ≤ u) : vzig (vzag u) = u := by unfold vzag vzig; split <;> split <;> omega
end Go.Proofs.YtocodcceimeiiaaDoor

/- Contracts of varint's functions that only compute with numbers. -/









namespace Go.Proofs.YtocodcceimeiiaaDoor

open Go.RowKit

theorem zig_any (x : Int) (w : World) (h0 : -9223372036854775808 ≤ x) (h1 : x ≤ 9223372036854775807) :
    Calls Tryd.prog 33 #[.int .i64 x] w fun e w' => e = .returned (.int .u64 (vzig x)) ∧ w = w' := by
  by_cases hx : x < 0
  · have hb := u64_not (IntKind.u64.wrap (IntKind.u64.wrap x * 2)) (by rw [IntKind.wrap_u64]; omega) (by rw [IntKind.wrap_u64]; omega)
    have hs : IntKind.u64.signed = false := rfl
    go_enter Tryd.func33, Tryd.ntmps33
    go_wp2
    go_ret
    exact ⟨ret_int (by rw [vzig_neg hx]; simp only [IntKind.wrap_u64]; omega), rfl⟩
  · go_enter Tryd.func33, Tryd.ntmps33
    go_wp2
    go_ret
    exact ⟨ret_int (by rw [vzig_pos (by omega)]; omega), rfl⟩
theorem rzig_any (x : Int) (w : World) (h0 : -9223372036854775808 ≤ x) (h1 : x ≤ 9223372036854775807) :
    Calls Tryd.prog 41 #[.int .i64 x] w fun e w' => e = .returned (.int .u64 (vzig x)) ∧ w = w' := by
  by_cases hx : x < 0
  · go_enter Tryd.func41, Tryd.ntmps41
    go_wp2
    go_ret
    exact ⟨ret_int (by rw [vzig_neg hx]; omega), rfl⟩
  · go_enter Tryd.func41, Tryd.ntmps41
    go_wp2
    go_ret
    exact ⟨ret_int (by rw [vzig_pos (by omega)]), rfl⟩
theorem zag_any (u : Int) (w : World) (h0 : 0 ≤ u) (h1 : u < 18446744073709551616) :
    Calls Tryd.prog 25 #[.int .u64 u] w fun e w' => e = .returned (.int .i64 (vzag u)) ∧ w = w' := by
  have hb := i64_not (u / 2) (by omega) (by omega)
  have ha := u64_and1 u h0 h1
  have hs : IntKind.i64.signed = true := rfl
  rcases (by omega : u % 2 = 0 ∨ u % 2 = 1) with hu | hu
  · have hz : (u % 2 != 0) = false := by simp [hu]
    have H := Lib.hid hu
    clear hu
    go_enter Tryd.func25, Tryd.ntmps25
    go_wp2
    go_ret
    exact ⟨ret_int (by rw [vzag_even H.out]), rfl⟩
  · have hz : (u % 2 != 0) = true := by simp [hu]
    have H := Lib.hid hu
    clear hu
    go_enter Tryd.func25, Tryd.ntmps25
    go_wp2
    go_ret
    exact ⟨ret_int (by rw [vzag_odd H.out]), rfl⟩
theorem rzag_any (u : Int) (w : World) (h0 : 0 ≤ u) (h1 : u < 18446744073709551616) :
    Calls Tryd.prog 27 #[.int .u64 u] w fun e w' => e = .returned (.int .i64 (vzag u)) ∧ w = w' := by
  rcases (by omega : u % 2 = 0 ∨ u % 2 = 1) with hu | hu
  · have hz : (u % 2 == 1) = false := by simp [hu]
    have H := Lib.hid hu
    clear hu
    go_enter Tryd.func27, Tryd.ntmps27
    go_wp2
    go_ret
    exact ⟨ret_int (by rw [vzag_even H.out]), rfl⟩
  · have hz : (u % 2 == 1) = true := by simp [hu]
    have H := Lib.hid hu
    clear hu
    go_enter Tryd.func27, Tryd.ntmps27
    go_wp2
    go_ret
    exact ⟨ret_int (by rw [vzag_odd H.out]), rfl⟩
theorem vsize_any (u : Int) (w : World) (h0 : 0 ≤ u) (h1 : u < 18446744073709551616) :
    Calls Tryd.prog 54 #[.int .u64 u] w fun e w' => e = .returned (.int .i64 ((vput u.toNat).length : Nat)) ∧ w = w' := by
  have ho := u64_or1 u h0 h1
  have hl : u.toNat ||| 1 < 2 ^ 64 := Nat.or_lt_two_pow (by omega) (by omega)
  have HB := Lib.hid (bitLen_vput u.toNat (by omega))
  have hle := vput_len_10 (x := u.toNat) (by omega)
  generalize (vput u.toNat).length = n at *
  generalize u.toNat ||| 1 = m at *
  have hle2 : Lib.bitLen m ≤ 70 := by have := HB.out; omega
  go_enter Tryd.func54, Tryd.ntmps54
  go_wp2_with (go_at_call 60; refine (Tryd.bits_Len64 _ _ (by omega) (by omega)).mono ?_; rintro e w' ⟨rfl, rfl⟩)
  go_ret
  exact ⟨ret_int (by have := HB.out; omega), rfl⟩
theorem mayEnd_any (i c : Int) (w : World) (h0 : 0 ≤ i) (h1 : i ≤ 1000) (h2 : 0 ≤ c) (h3 : c < 256) :
    Calls Tryd.prog 55 #[.int .i64 i, .int .u8 c] w fun e w' => e = .returned (.bool (vend i.toNat c.toNat)) ∧ w = w' := by
  by_cases h9 : i = 9
  · subst h9
    have hv : vend (9 : Int).toNat c.toNat = (c == 1) := by
      show (if 9 = 9 then c.toNat == 1 else _) = _
      rw [if_pos rfl, Bool.eq_iff_iff]; simp; omega
    have HV := Lib.hid hv
    clear hv
    go_enter Tryd.func55, Tryd.ntmps55
    go_wp2
    go_ret
    exact ⟨ret_bool HV.out.symm, rfl⟩
  · have h9' : (i == 9) = false := by simpa using h9
    have hv : vend i.toNat c.toNat = (c != 0 || i == 0) := by
      show (if i.toNat = 9 then _ else c.toNat != 0 || i.toNat == 0) = _
      rw [if_neg (by omega), Bool.eq_iff_iff]; simp; omega
    by_cases hc : c = 0
    · subst hc
      have HV := Lib.hid hv
      clear hv
      go_enter Tryd.func55, Tryd.ntmps55
      go_wp2
      go_ret
      exact ⟨ret_bool (by rw [HV.out]; rfl), rfl⟩
    · have hc' : (c != 0) = true := by simpa using hc
      have HV := Lib.hid hv
      clear hv
      go_enter Tryd.func55, Tryd.ntmps55
      go_wp2
      go_ret
      exact ⟨ret_bool (by rw [HV.out, hc']; rfl), rfl⟩
end Go.Proofs.YtocodcceimeiiaaDoor

/- The contract of the reference's Put. -/



namespace Go.Proofs.YtocodcceimeiiaaDoor

open Go.RowKit

/-- What the loop holds: the bytes m are laid down, y is still to come. -/
def RPutRel (l : List UInt8) (X : Nat) (w : World) (t : TypeId) (x v : Value) (wr : World) : Prop :=
  ∃ (y : Nat) (m : List UInt8), x = .int .u64 (y : Int) ∧ (y : Int) < 18446744073709551616 ∧ m ++ vput y = l ++ vput X ∧ wr.ownsRow w.heap.size t 1 v m.length (m.map bv) ∧ Below w.heap.size w wr

theorem bv_low {y : Nat} (h : y < 256) : Value.int .u8 (y : Int) = bv (UInt8.ofNat y) := by unfold bv; congr 1; simp; omega

set_option maxHeartbeats 400000 in
set_option maxRecDepth 100000 in
theorem rput_own (A : Option Addr) (n c : Nat) (x : Int) (l : List UInt8) (w : World) (hA : A = none → n = 0) (hn : l.length = n) (hnb : n ≤ 1000000) (hl : Lies w A (l.map bv)) (h0 : 0 ≤ x) (h1 : x < 18446744073709551616) :
    Calls Tryd.prog 44 #[.slice A n c, .int .u64 x] w (RetOwn w (l ++ vput x.toNat)) := by
  obtain ⟨X, rfl⟩ := Int.eq_ofNat_of_zero_le h0
  rw [Int.toNat_natCast]
  have hb0 : Below w.heap.size w (w.alloc (.cells #[] 5)) := (Below.refl _ _).alloc (Nat.le_refl _) _
  have hl1 : Lies (w.alloc (.cells #[] 5)) A (l.map bv) := hl.below hb0
  have hm : (l.map bv).length = n := by simpa using hn
  have hown0 : (w.alloc (.cells #[] 5)).ownsRow w.heap.size 5 1 (.slice (some ⟨w.heap.size, 0, none⟩) 0 0) 0 [] := World.ownsRow_made w #[] 0 (Nat.le_refl _) (by unfold maxLen; omega) (by simp)
  have h10 := vput_len_10 (x := X) (by omega)
  have hzz : w.heap.size ≤ (w.alloc (.cells #[] 5)).heap.size := by simp
  go_enter Tryd.func44, Tryd.ntmps44
  go_wp2_with (at_builtin; refine wpList_join elemB rfl _ _ rfl w.heap.size _ _ _ _ _ _ _ w rfl rfl hA hm hl1 (bv_one l) hown0 hb0 hzz (by omega) (by omega) ?_)
  intro v1 w1 hown1 hb1 _ _
  rw [← hn] at hown1
  clear hown0 hl1 hb0 hzz
  go_wp2
  go_loopw [1, 5] (RPutRel l X w 5) (fun x _ _ => (intOf x).toNat)
  case atStart => exact ⟨X, l, rfl, by omega, rfl, by simpa using hown1, hb1⟩
  case round =>
    obtain ⟨y, m, rfl, hy, HM, hown, hb⟩ := hrel
    have HE := Lib.hid HM
    have hlen : m.length ≤ 1000010 := by
      have := congrArg List.length HM
      have := vput_len_pos y
      simp only [List.length_append] at *
      omega
    have hz := hb.size
    clear HM hown1 hb1
    by_cases hlt : y < 128
    · have hq : ¬ (128 : Int) ≤ (y : Int) := by omega
      go_wp2_with (at_builtin; refine wpList_push elemB rfl _ _ rfl w.heap.size _ _ _ (.int .u8 (y : Int)) wr w rfl rfl rfl rfl hown hb hz (by omega) (by omega) ?_)
      intro v2 w2 hown2 hb2 _ _
      go_wp2
      go_ret
      rw [bv_low (by omega)] at hown2
      rw [← HE.out, vput_lt hlt]
      exact ⟨_, rfl, by simpa using hown2, hb2⟩
    · have hq : (128 : Int) ≤ (y : Int) := by omega
      go_wp2_with (at_builtin; refine wpList_push elemB rfl _ _ rfl w.heap.size _ _ _ (.int .u8 ((y : Int) % 128 + 128)) wr w rfl rfl rfl rfl hown hb hz (by omega) (by omega) ?_)
      intro v2 w2 hown2 hb2 _ _
      go_wp2
      go_roundw
      case rel =>
        refine ⟨y / 128, m ++ [UInt8.ofNat (y % 128 + 128)], by go_num, by omega, ?_, ?_, hb2⟩
        · rw [← HE.out, vput_ge (x := y) (by omega)]; simp
        · rw [show (y : Int) % 128 + 128 = ((y % 128 + 128 : Nat) : Int) by omega, bv_low (by omega)] at hown2
          simpa using hown2
      case measure => simp [intOf]; omega
theorem rput_any (A : Option Addr) (n c : Nat) (x : Int) (l : List UInt8) (w : World) (hA : A = none → n = 0) (hn : l.length = n) (hnb : n ≤ 1000000) (hl : Lies w A (l.map bv)) (h0 : 0 ≤ x) (h1 : x < 18446744073709551616) :
    Calls Tryd.prog 44 #[.slice A n c, .int .u64 x] w (RetB w (l ++ vput x.toNat)) := (rput_own A n c x l w hA hn hnb hl h0 h1).mono fun _ _ h => h.retB
end Go.Proofs.YtocodcceimeiiaaDoor

/- The contract of varint.Put. -/





namespace Go.Proofs.YtocodcceimeiiaaDoor

open Go.RowKit

/-- What the loop holds: j bytes are laid down behind l. -/
def PutRel (l : List UInt8) (X k : Nat) (w : World) (t : TypeId) (x i : Value) (wr : World) : Prop :=
  ∃ j : Nat, i = .int .i64 (j : Int) ∧ j + 1 ≤ k ∧ x = .int .u64 ((X / 128 ^ j : Nat) : Int) ∧ Row wr w.heap.size t ((l ++ (vput X).take j).map bv ++ List.replicate (k - j) (bv 0)) ∧ Below w.heap.size w wr

set_option maxHeartbeats 400000 in
set_option maxRecDepth 100000 in
theorem put_own (A : Option Addr) (n c : Nat) (x : Int) (l : List UInt8) (w : World) (_hA : A = none → n = 0) (hn : l.length = n) (hnb : n ≤ 1000000) (hl : Lies w A (l.map bv)) (h0 : 0 ≤ x) (h1 : x < 18446744073709551616) :
    Calls Tryd.prog 48 #[.slice A n c, .int .u64 x] w (RetOwn w (l ++ vput x.toNat)) := by
  have h10 := vput_len_10 (x := x.toNat) (by omega)
  have hp := vput_len_pos x.toNat
  obtain ⟨k, hk⟩ : ∃ k, k = (vput x.toNat).length := ⟨_, rfl⟩
  have HK := Lib.hid hk
  have hsz := vsize_any x w h0 h1
  rw [← hk] at hsz h10 hp
  have HS := Lib.hid hsz
  clear hk hsz
  have hm : (l.map bv).length = n := by simpa using hn
  go_enter Tryd.func48, Tryd.ntmps48
  go_wp2_with (first | (go_at_call 54; refine HS.out.mono ?_; rintro e w' ⟨rfl, rfl⟩) | (refine wpList_make elemB rfl _ _ rfl _ _ _ _ (n + k) w w.heap.size rfl rfl ?_ ?_ (by omega) (by omega) (Below.refl _ _) (Nat.le_refl _) ?_))
  · omega
  · omega
  intro w1 hr1 hb1
  have hl1 := hl.below hb1
  have hlr : (List.replicate (n + k) (bv 0)).length = n + k := by simp
  go_wp2_with (refine wpList_copyRow elemB rfl (.tmp 16) (.tmp 17) rfl _ _ _ _ _ _ _ _ (l.map bv) w.heap.size w rfl rfl hr1 hm hl1 (bv_one l) (by omega) (by omega) hb1 (Nat.le_refl _) ?_)
  intro w2 hr2 hb2
  have hr2' : Row w2 w.heap.size 5 (l.map bv ++ List.replicate k (bv 0)) := by simpa [hn] using hr2
  clear hr2 hr1 hb1 hl1 hlr HS
  go_wp2
  obtain ⟨X, rfl⟩ := Int.eq_ofNat_of_zero_le h0
  rw [Int.toNat_natCast] at *
  go_loopw [1, 25] (PutRel l X k w 5) (fun _ i _ => k - (intOf i).toNat)
  case atStart => exact ⟨0, rfl, by omega, by simp, by simpa using hr2', hb2⟩
  case round =>
    obtain ⟨j, rfl, hj, rfl, hr, hb⟩ := hrel
    clear hr2' hb2
    have hll : ((l ++ (vput X).take j).map bv).length = n + j := by
      have := HK.out
      simp; omega
    have hc0 : wr.cell? ⟨w.heap.size, n + j, none⟩ = some (bv 0) := by
      rw [hr.cell, List.getElem?_append_right (by omega), hll, List.getElem?_replicate]
      simp; omega
    have hf0 := hr.free (n + j)
    generalize hY : X / 128 ^ j = Y at *
    have HY := Lib.hid hY
    clear hY
    have hy : (Y : Int) < 18446744073709551616 := by
      have := Nat.div_le_self X (128 ^ j)
      rw [HY.out] at this
      omega
    have ho := u8_or128 ((Y : Int) % 256) (by omega) (by omega)
    by_cases hlt : j + 1 < k
    · have hq : ((j : Int) < (k : Int) - 1) := by omega
      go_wp2
      go_roundw
      case rel =>
        refine ⟨j + 1, by go_num, by omega, ?_, ?_, hb.setCell (Nat.le_refl _) _⟩
        · rw [Nat.pow_succ, ← Nat.div_div_eq_div_mul, HY.out]; go_num
        · have h2 := hr.set_ (n + j) (.int .u8 ((Y : Int) % 128 + 128))
          have h3 : Value.int .u8 ((Y : Int) % 128 + 128) = bv (UInt8.ofNat (Y % 128 + 128)) := by
            rw [show (Y : Int) % 128 + 128 = ((Y % 128 + 128 : Nat) : Int) by omega, bv_low (by omega)]
          have h4 := (vput_getElem j X (by have := HK.out; omega)).1
          rw [h3] at h2 ⊢
          have h5 : (List.map bv (l ++ List.take j (vput X)) ++ List.replicate (k - j) (bv 0)).set (n + j) (bv (UInt8.ofNat (Y % 128 + 128))) =
              List.map bv (l ++ List.take (j + 1) (vput X)) ++ List.replicate (k - (j + 1)) (bv 0) := by
            rw [List.set_append_right _ _ (by omega), hll, Nat.sub_self, show k - j = k - (j + 1) + 1 by omega, List.replicate_succ, List.set_cons_zero,
              List.take_succ_eq_append_getElem (by have := HK.out; omega), h4, HY.out]
            simp
          rw [h5] at h2
          exact h2
      case measure => simp [intOf]; omega
    · obtain rfl : k = j + 1 := by omega
      have hq : ¬ ((j : Int) < ((j + 1 : Nat) : Int) - 1) := by omega
      go_wp2
      go_ret
      have h4 := vput_take_last j X HK.out
      have h5 := (vput_last j X HK.out).2
      rw [HY.out] at h4 h5
      have h2 := hr.set_ (n + j) (.int .u8 ((Y : Int) % 256))
      have h6 : (List.map bv (l ++ List.take j (vput X)) ++ List.replicate (j + 1 - j) (bv 0)).set (n + j) (.int .u8 ((Y : Int) % 256)) = List.map bv (l ++ vput X) := by
        have h7 : Value.int .u8 ((Y : Int) % 256) = bv (UInt8.ofNat Y) := by
          rw [show (Y : Int) % 256 = ((Y : Nat) : Int) by omega, bv_low (by omega)]
        rw [List.set_append_right _ _ (by omega), hll, Nat.sub_self, show j + 1 - j = 0 + 1 by omega, List.replicate_succ, List.set_cons_zero, h7, List.replicate_zero]
        conv => rhs; rw [← h4]
        simp
      rw [h6] at h2
      have h9 : (l ++ vput X).length = n + (j + 1) := by have := HK.out; rw [List.length_append]; omega
      exact ⟨.slice (some ⟨w.heap.size, 0, none⟩) (n + (j + 1)) (n + (j + 1)), rfl, by rw [h9]; exact own_of_row h2 (by rw [List.length_map]; exact h9) (Nat.le_refl _) (by omega), hb.setCell (Nat.le_refl _) _⟩
end Go.Proofs.YtocodcceimeiiaaDoor

/- The contract of varint.Take. -/







namespace Go.Proofs.YtocodcceimeiiaaDoor

open Go.RowKit

/-- What a call answers that takes a number off bytes. -/
def RetT (k : IntKind) (w : World) (o : Option (Int × List UInt8)) (e : Ending) (w' : World) : Prop :=
  match o with
  | none => e = .returned (.tuple #[.int k 0, .slice none 0 0, .int .i64 2]) ∧ Below w.heap.size w w'
  | some p => ∃ A c, e = .returned (.tuple #[.int k p.1, .slice A p.2.length c, .int .i64 0]) ∧ (A = none → p.2.length = 0) ∧ p.2.length ≤ c ∧ c ≤ maxLen ∧ OwnB w p.2 (.slice A p.2.length c) w' ∧ Below w.heap.size w w'

/-- What the loop holds: k bytes with their highest bit are read. -/
def TakeRel (l : List UInt8) (x i : Value) : Prop :=
  ∃ (k : Nat) (y : Int), i = .int .i64 (k : Int) ∧ k ≤ 10 ∧ k ≤ l.length ∧ x = .int .u64 y ∧ 0 ≤ y ∧ y < 18446744073709551616 ∧ (k ≤ 9 → y = (vsum (l.take k) : Nat)) ∧ ∀ j (h : j < l.length), j < k → 128 ≤ l[j].toNat

theorem or_shift_bd (y : Int) (d k : Nat) (h0 : 0 ≤ y) (h1 : y < 18446744073709551616) :
    0 ≤ bits .or .u64 y (IntKind.u64.wrap ((d : Int) * 2 ^ (7 * k))) ∧ bits .or .u64 y (IntKind.u64.wrap ((d : Int) * 2 ^ (7 * k))) < 18446744073709551616 := by
  rw [u64_or y _ h0 h1 (by rw [IntKind.wrap_u64]; omega) (by rw [IntKind.wrap_u64]; omega)]
  have : y.toNat ||| (IntKind.u64.wrap ((d : Int) * 2 ^ (7 * k))).toNat < 2 ^ 64 := Nat.or_lt_two_pow (by omega) (by rw [IntKind.wrap_u64]; omega)
  omega
theorem or_shift_eq (a d k : Nat) (ha : a < 128 ^ k) (hk : k ≤ 9) (hd : 128 ^ k * d < 18446744073709551616) :
    bits .or .u64 (a : Int) (IntKind.u64.wrap ((d : Int) * 2 ^ (7 * k))) = ((a + 128 ^ k * d : Nat) : Int) := by
  have h1 : (128 : Nat) ^ k = 2 ^ (7 * k) := by rw [Nat.pow_mul]
  have h2 : (128 : Nat) ^ k ≤ 128 ^ 9 := Nat.pow_le_pow_right (by omega) hk
  have h3 : (128 : Nat) ^ 9 = 9223372036854775808 := by decide
  rw [h1] at ha hd ⊢
  have h4 : ((d : Int) * 2 ^ (7 * k)) = ((d * 2 ^ (7 * k) : Nat) : Int) := by push_cast; rfl
  rw [h4, IntKind.wrap_u64, Int.emod_eq_of_lt (by omega) (by rw [Nat.mul_comm]; omega), u64_join (7 * k) a d ha (by rw [Nat.mul_comm]; exact hd) (by omega), Nat.mul_comm d]

theorem mayEnd_is (i c : Nat) (v : Bool) (w : World) (h1 : i ≤ 1000) (h2 : c < 256) (hv : vend i c = v) :
    Calls Tryd.prog 55 #[.int .i64 (i : Int), .int .u8 (c : Int)] w fun e w' => e = .returned (.bool v) ∧ w = w' := by
  have h := mayEnd_any (i : Int) (c : Int) w (by omega) (by omega) (by omega) (by omega)
  rw [Int.toNat_natCast, Int.toNat_natCast, hv] at h
  exact h

set_option maxHeartbeats 400000 in
set_option maxRecDepth 100000 in
theorem take_any (A : Option Addr) (n c : Nat) (l : List UInt8) (w : World) (hA : A = none → n = 0) (hn : l.length = n) (hnc : n ≤ c) (hnb : n ≤ 1000000) (hl : Lies w A (l.map bv)) :
    Calls Tryd.prog 49 #[.slice A n c] w (RetT .u64 w ((vtake l).map fun p => ((p.1 : Int), p.2))) := by
  go_enter Tryd.func49, Tryd.ntmps49
  go_wp2
  go_loop [5, 11] (TakeRel l) (fun _ i => 10 - (intOf i).toNat)
  case atStart => exact ⟨0, 0, rfl, by omega, by omega, rfl, by omega, by omega, by simp [vsum], by omega⟩
  case round =>
    obtain ⟨k, y, rfl, hk, hkl, rfl, hy0, hy1, hy, hhi⟩ := hrel
    have HY := Lib.hid hy
    have HH := Lib.hid hhi
    clear hy hhi
    by_cases hlt : k < min n 10
    · have hm : (l.map bv).length = n := by simpa using hn
      obtain ⟨ad, rfl, _, hc⟩ := hl.cell (k := k) (by omega)
      obtain ⟨b, hb⟩ : ∃ b : Nat, b = (l[k]'(by omega)).toNat := ⟨_, rfl⟩
      have hcb : w.cell? (ad.add k) = some (.int .u8 (b : Int)) := by rw [hc, List.getElem_map, hb]; rfl
      have hb256 : b < 256 := by rw [hb]; exact UInt8.toNat_lt _
      have HB := Lib.hid hb
      clear hb hc
      have ha1 := u8_and127 (b : Int) (by omega) (by omega)
      have hlt' : (k : Int) < min (n : Int) 10 := by omega
      have hbd := or_shift_bd y (b % 128) k hy0 hy1
      have hZ : bits .or .u64 y (IntKind.u64.wrap ((b : Int) % 128 * 2 ^ (7 * k))) = bits .or .u64 y (IntKind.u64.wrap (((b % 128 : Nat) : Int) * 2 ^ (7 * k))) := by push_cast; rfl
      obtain ⟨Z, hzz⟩ : ∃ Z, Z = bits .or .u64 y (IntKind.u64.wrap (((b % 128 : Nat) : Int) * 2 ^ (7 * k))) := ⟨_, rfl⟩
      rw [← hzz] at hZ hbd
      have HZ := Lib.hid hzz
      clear hzz
      obtain ⟨hz0, hz1⟩ := hbd
      have hb9 : k ≤ 9 := by omega
      by_cases h128 : b < 128
      · have ha2 : bits .and .u8 (b : Int) 128 = 0 := by rw [u8_and128 (b : Int) (by omega) (by omega)]; omega
        have hend : vtake l = if vend k b = true then some (vsum (l.take k) + 128 ^ k * b, l.drop (k + 1)) else none := by
          have := vtake_end hb9 (by omega) HH.out (by rw [← HB.out]; exact h128)
          rw [← HB.out] at this
          exact this
        cases hv : vend k b with
        | false =>
          have HE : Hid (vtake l = none) := by show vtake l = none; rw [hend, hv]; simp
          have HV := Lib.hid hv
          clear hend hv
          go_wp2_with (go_at_call 55; refine (mayEnd_is _ _ false _ (by omega) (by omega) HV.out).mono ?_; rintro e w' ⟨rfl, rfl⟩)
          go_ret3
          rw [HE.out]
          exact ⟨rfl, Below.refl _ _⟩
        | true =>
          have HE : Hid (vtake l = some (vsum (l.take k) + 128 ^ k * b, l.drop (k + 1))) := by show vtake l = _; rw [hend, hv]; simp
          have HV := Lib.hid hv
          clear hend hv
          have hdl : ((l.drop (k + 1)).map bv).length = n - (k + 1) := by rw [List.length_map, List.length_drop, hn]
          have hlk : Lies w (some ⟨ad.block, ad.off + (k + 1), none⟩) ((l.drop (k + 1)).map bv) := by rw [List.map_drop]; exact hl.drop_some k
          have hfin : ∀ (v : Value) (w1 : World), w1.ownsRow w.heap.size 5 1 v (n - (k + 1)) ((l.drop (k + 1)).map bv) → Below w.heap.size w w1 →
              RetT .u64 w ((vtake l).map fun p => ((p.1 : Int), p.2)) (.returned (.tuple #[.int .u64 Z, v, .int .i64 0])) w1 := by
            intro v w1 hown hb
            obtain ⟨B, c', hB, h2, h3, h4, _, h6⟩ := ret_own (w0 := w) hown hb
            injection hB with hB
            subst hB
            have hZv : Z = ((vsum (l.take k) + 128 ^ k * b : Nat) : Int) := by
              have h7 := HY.out hb9
              have h8 : b % 128 = b := by omega
              have hvs := vsum_lt (l.take k)
              rw [List.length_take, Nat.min_eq_left (by omega)] at hvs
              have hto := (vtake_some HE.out).2
              rw [HZ.out, h7, h8, or_shift_eq _ _ _ hvs hb9 (by omega)]
            rw [HE.out]
            exact ⟨B, c', by rw [hZv], h2, h3, h4, ⟨_, hown⟩, h6⟩
          have HF := Lib.hid hfin
          clear hfin
          by_cases hck : c = k + 1
          · obtain rfl : n = k + 1 := by omega
            have hd0 : (l.drop (k + 1)).map bv = [] := List.eq_nil_of_length_eq_zero (by omega)
            have HD := Lib.hid hd0
            clear hd0 hdl
            go_wp2_with (first | (go_at_call 55; refine (mayEnd_is _ _ true _ (by omega) (by omega) HV.out).mono ?_; rintro e w' ⟨rfl, rfl⟩) | (at_builtin; refine wpList_join elemB rfl _ _ rfl w.heap.size _ _ _ _ _ _ [] w rfl rfl (by simp) (by simp) Lies.nil (by simp) (World.ownsRow_nil _ _ _ _) (Below.refl _ _) (Nat.le_refl _) (by omega) (by omega) ?_))
            intro v1 w1 hown1 hb1 _ _
            go_wp2
            go_ret3
            exact HF.out v1 w1 (by rw [HD.out]; simpa using hown1) hb1
          · go_wp2_with (first | (go_at_call 55; refine (mayEnd_is _ _ true _ (by omega) (by omega) HV.out).mono ?_; rintro e w' ⟨rfl, rfl⟩) | (at_builtin; refine wpList_join elemB rfl _ _ rfl w.heap.size _ _ _ _ _ _ ((l.drop (k + 1)).map bv) w rfl rfl (by simp) hdl hlk (bv_one _) (World.ownsRow_nil _ _ _ _) (Below.refl _ _) (Nat.le_refl _) (by omega) (by omega) ?_))
            intro v1 w1 hown1 hb1 _ _
            go_wp2
            go_ret3
            exact HF.out v1 w1 (by simpa using hown1) hb1
      · have ha2 : bits .and .u8 (b : Int) 128 = 128 := by rw [u8_and128 (b : Int) (by omega) (by omega)]; omega
        go_wp2
        go_round
        case rel =>
          refine ⟨k + 1, Z, by go_num, by omega, by omega, rfl, hz0, hz1, ?_, ?_⟩
          · intro h9
            have h7 := HY.out hb9
            have hvs := vsum_lt (l.take k)
            rw [List.length_take, Nat.min_eq_left (by omega)] at hvs
            have h2 : (128 : Nat) ^ k ≤ 128 ^ 8 := Nat.pow_le_pow_right (by omega) (by omega)
            have h3 : (128 : Nat) ^ 8 = 72057594037927936 := by decide
            have h4 : 128 ^ k * (b % 128) ≤ 72057594037927936 * 127 := Nat.mul_le_mul (by omega) (by omega)
            rw [HZ.out, h7, or_shift_eq _ _ _ hvs hb9 (by omega), List.take_succ_eq_append_getElem (by omega), vsum_append, List.length_take, Nat.min_eq_left (by omega)]
            simp only [vsum, ← HB.out, Nat.mul_zero, Nat.add_zero]
          · intro j hj hjk
            by_cases hjk' : j = k
            · subst hjk'; rw [← HB.out]; omega
            · exact HH.out j hj (by omega)
        case measure => simp [intOf]; omega
    · have hge : ¬ (k : Int) < min (n : Int) 10 := by omega
      have hnone : vtake l = none := by
        by_cases h10 : n < 10
        · exact vtake_all (by omega) fun j hj => HH.out j hj (by omega)
        · exact vtake_long (by omega) fun j hj hj10 => HH.out j hj (by omega)
      have HE := Lib.hid hnone
      clear hnone
      go_wp2
      go_ret3
      rw [HE.out]
      exact ⟨rfl, Below.refl _ _⟩
end Go.Proofs.YtocodcceimeiiaaDoor
