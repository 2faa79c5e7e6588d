
/- What the contracts of all layers share: endings, bytes and an error that a call answers, slices of the call's own. Over any program but for the last lines. -/

import Derived.Test.YtocodcceimeiiaaRows

import Derived.Test.YtocodcceimeiiaaBits

import Derived.Test.YtocodcceimeiiaaOps

import Derived.WalkKit

import Derived.WalkLawsBesides

import Derived.Outline

import Derived.Lib.Hide

import Derived.Handy

import Derived.Deep.QuietTactic

import Derived.BigQuiet

import Derived.StillTailTactics

import Derived.Deep.DeepMust

import Derived.Lib.SlBytesConst

namespace Go.Proofs.Ytocodcceimeiiaa

open Go.RowKit

theorem ret_int {k : IntKind} {a b : Int} (h : a = b) : Ending.returned (.int k a) = .returned (.int k b) := by rw [h]
theorem ret_bool {a b : Bool} (h : a = b) : Ending.returned (.bool a) = .returned (.bool b) := by rw [h]
theorem below_then {a b c : World} (h : Below a.heap.size a b) (k : Below b.heap.size b c) : Below a.heap.size a c := h.trans (k.mono h.size)

/-- A region that draws and whose last operations are forced: the others only read. -/
theorem wp_region_tail {P : Program} {id : Nat} {Q : Exit → Act → World → Prop} {a : Act} {w : World} {l : List Oper} (n : Nat) (hm : P.follows .mixedOrders = true) (hB : Region.lexTailB .any l.toArray n = true)
    (h : wpStill P l.toArray w.drew (fun a' => wpList P l.toArray Q (l.drop n) a' w.drew) (l.take n) a) : (Code.region id l.toArray true).wp P Q a w := wp_region_still_tail n hm hB h
/-- Bits that don't meet are added, in a byte. -/
theorem or_byte (r B S : Nat) (h0 : B % 2 ^ r = 0) (h1 : S < 2 ^ r) (h2 : B + S < 256) : bits .or .u8 (B : Int) (S : Int) = ((B + S : Nat) : Int) := by
  rw [u8_or _ _ (by omega) (by omega) (by omega) (by omega), Int.toNat_natCast, Int.toNat_natCast, nat_join r B S h0 h1]

theorem own_drewN {w : World} {base size n : Nat} {e : TypeId} {v : Value} {xs : List Value} (h : w.ownsRow base e size v n xs) (q : Nat) : (w.drewN q).ownsRow base e size v n xs := h
theorem own_le {w : World} {base base' size n : Nat} {e : TypeId} {v : Value} {xs : List Value} (h : w.ownsRow base e size v n xs) (hb : base' ≤ base) : w.ownsRow base' e size v n xs :=
  ⟨h.1, h.2.elim Or.inl (fun ⟨g, cap, cur, hv, hg, r⟩ => Or.inr ⟨g, cap, cur, hv, Nat.le_trans hb hg, r⟩)⟩
/-- Bytes and an error that a call answers. -/
def RetE (w : World) (p : List UInt8 × Int) (e : Ending) (w' : World) : Prop := ∃ v, e = .returned (.tuple #[v, .int .i64 p.2]) ∧ IsB p.1 v w' ∧ Below w.heap.size w w'
theorem isB_nil (w : World) : IsB [] (.slice none 0 0) w := ⟨none, 0, rfl, by simp, by simp, by unfold maxLen; omega, Lies.nil⟩
theorem RetE.nil {w w' : World} (n : Int) (hb : Below w.heap.size w w') : RetE w ([], n) (.returned (.tuple #[.slice none 0 0, .int .i64 n])) w' := ⟨_, rfl, isB_nil _, hb⟩
theorem isB_row {w : World} {g : Nat} {t : TypeId} {l : List UInt8} {m : Nat} (h : Row w g t (l.map bv)) (hl : l.length = m) (hm : m ≤ 1000000) : IsB l (.slice (some ⟨g, 0, none⟩) m m) w := by
  subst hl
  exact ⟨_, _, rfl, by simp, Nat.le_refl _, by unfold maxLen; omega, by simpa using h.lies 0⟩
theorem isB_own {w : World} {base : Nat} {e : TypeId} {v : Value} {n : Nat} {l : List UInt8} (h : w.ownsRow base e 1 v n (l.map bv)) : IsB l v w := by
  obtain ⟨v', h1, h2, _⟩ := (ret_own (w0 := w) (l := l) h (Below.refl _ _)).isB
  injection h1 with h1
  subst h1
  exact h2
theorem isB_new (w : World) (t : TypeId) (l : List UInt8) (m : Nat) (hl : l.length = m) (hm : m ≤ 1000000) : IsB l (.slice (some ⟨w.heap.size, 0, none⟩) m m) (w.alloc (.cells (l.map bv).toArray t)) := by
  have h : Row (w.alloc (.cells (l.map bv).toArray t)) w.heap.size t (l.map bv) := heap_alloc_new w _
  exact isB_row h hl hm

/-- The bytes of a constant text, converted: their block bears a mark. -/
theorem isB_mark (w : World) (t : TypeId) (fr : Nat × Nat) (l : List UInt8) (m : Nat) (hl : l.length = m) (hm : m ≤ 1000000) : IsB l (.slice (some ⟨w.heap.size, 0, none⟩) m m) (w.alloc (.cells (l.map bv).toArray t fr)) := by
  subst hl
  refine ⟨_, _, rfl, by simp, Nat.le_refl _, by unfold maxLen; omega, .inr ⟨_, rfl, by simp, fun j u hu => ?_⟩⟩
  have he : (⟨w.heap.size, 0, none⟩ : Addr).add j = ⟨w.heap.size, j, none⟩ := by unfold Addr.add; split <;> simp_all
  rw [he, cell_of_row _ _ j (l.map bv).toArray t fr (heap_alloc_new w _)]
  simpa using hu
/-- x[k:] of a slice, nil let in. -/
theorem wpList_from {P : Program} {w : World} {ops : Array Oper} {rest : List Oper} {o : Oper} {a : Act} {Q : Exit → Act → World → Prop} {t e : TypeId} {bytes : Nat} {z : Value} (E : Elem P t e bytes z)
    (hgd : o.guard = none) (x y : Operand) (ho : o.op = .slice t x (some y) none none) (A : Option Addr) (n c k : Nat) (xs : List Value) (hx : a.eval x = .slice A n c) (hy : a.eval y = .int .i64 (k : Int)) (hk : k ≤ n) (hnc : n ≤ c)
    (hxs : xs.length = n) (hl : Lies w A xs) (hA : A = none → n = 0)
    (h : ∀ B, Lies w B (xs.drop k) → (B = none → n - k = 0) → wpList P ops Q rest (a.put o.dst (.slice B (n - k) (c - k))) w) : wpList P ops Q (o :: rest) a w := by
  have ht := E.under
  have he : P.elem t = e := by simp [Program.elem, ht]
  have hrun : (Instr.sliceAt t (.slice A n c) (some (.int .i64 (k : Int))) none none).run P w = .ok (.slice (if c = k then A else A.map (·.add k)) (n - k) (c - k)) w := by
    rw [run_sliceAt_slice w t _ _ _ _ (by rw [he]; exact ht), run_slice_l w t A n c (by rw [he]; exact ht) .i64 (k : Int) (by omega) (by omega), he, E.size_]
    simp [sliced]
  refine wpList_plain hgd fun K hK => ?_
  unfold Oper.wp execOp
  simp only [ho, Option.map_some, Option.map_none, hx, hy, hrun, Sem.run_bind, Sem.run_pure, Result.andThen_ok]
  refine hK _ _ (h _ ?_ ?_)
  · exact hl.drop (by omega)
  · intro hB
    have : A = none := by
      split at hB
      · exact hB
      · cases A with
        | none => rfl
        | some ad => simp at hB
    have := hA this
    omega

/-- x[k:] of a slice of bytes, as one equation: what it answers has a name. -/
theorem from_named {P : Program} {w : World} {t e : TypeId} {bytes : Nat} {z : Value} (E : Elem P t e bytes z) {A : Option Addr} {n c k : Nat} {l : List UInt8} (hk : k ≤ n) (hnc : n ≤ c) (hcm : c ≤ maxLen) (hxs : l.length = n) (hl : Lies w A (l.map bv)) (hA : A = none → n = 0) :
    ∃ v, (∀ W, (Instr.sliceAt t (.slice A n c) (some (.int .i64 (k : Int))) none none).run P W = .ok v W) ∧ IsB (l.drop k) v w := by
  have ht := E.under
  have he : P.elem t = e := by simp [Program.elem, ht]
  refine ⟨.slice (if c = k then A else A.map (·.add k)) (n - k) (c - k), fun W => ?_, if c = k then A else A.map (·.add k), c - k, ?_, ?_, ?_, by omega, ?_⟩
  · rw [run_sliceAt_slice W t _ _ _ _ (by rw [he]; exact ht), run_slice_l W t A n c (by rw [he]; exact ht) .i64 (k : Int) (by omega) (by omega), he, E.size_]
    simp [sliced]
  · rw [List.length_drop, hxs]
  · intro hB
    have : A = none := by
      split at hB
      · exact hB
      · cases A with
        | none => rfl
        | some ad => simp at hB
    have := hA this
    rw [List.length_drop, hxs]
    omega
  · rw [List.length_drop, hxs]; omega
  · rw [List.map_drop]; exact hl.drop (by rw [List.length_map]; omega)

/-- x[i:k] of a slice of bytes, as one equation. -/
theorem piece_named {P : Program} {w : World} {t e : TypeId} {bytes : Nat} {z : Value} (E : Elem P t e bytes z) {A : Option Addr} {n c i k : Nat} {l : List UInt8} (hi : i ≤ k) (hk : k ≤ n) (hnc : n ≤ c) (hcm : c ≤ maxLen) (hxs : l.length = n) (hl : Lies w A (l.map bv)) (hA : A = none → n = 0) :
    ∃ v, (∀ W, (Instr.sliceAt t (.slice A n c) (some (.int .i64 (i : Int))) (some (.int .i64 (k : Int))) none).run P W = .ok v W) ∧ IsB ((l.drop i).take (k - i)) v w := by
  have ht := E.under
  have he : P.elem t = e := by simp [Program.elem, ht]
  have hlen : ((l.drop i).take (k - i)).length = k - i := by rw [List.length_take, List.length_drop, hxs]; omega
  refine ⟨.slice (if c = i then A else A.map (·.add i)) (k - i) (c - i), fun W => ?_, if c = i then A else A.map (·.add i), c - i, ?_, ?_, ?_, by omega, ?_⟩
  · rw [run_sliceAt_slice W t _ _ _ _ (by rw [he]; exact ht), run_slice_lh W t A n c (by rw [he]; exact ht) .i64 .i64 (i : Int) (k : Int) (by omega) (by omega) (by omega), he, E.size_]
    simp [sliced]
  · rw [hlen]
  · intro hB
    have : A = none := by
      split at hB
      · exact hB
      · cases A with
        | none => rfl
        | some ad => simp at hB
    have := hA this
    rw [hlen]
    omega
  · rw [hlen]; omega
  · rw [List.map_take, List.map_drop]; exact (hl.drop (by rw [List.length_map]; omega)).take _

/-- make([]T, 0, n), at a call of the walk. -/
theorem wpList_make0 {P : Program} {w : World} {ops : Array Oper} {rest : List Oper} {o : Oper} {a : Act} {Q : Exit → Act → World → Prop} {t e : TypeId} {bytes : Nat} {z : Value} (E : Elem P t e bytes z)
    (hgd : o.guard = none) (l c : Operand) (hop : o.op = Op.makeSlice t l c) (kl kc : IntKind) (C : Int) (n : Nat) (base : Nat) (w0 : World)
    (hl : a.eval l = .int kl 0) (hc : a.eval c = .int kc C) (hC : C = (n : Int)) (hn : n ≤ 1000000000) (hby : bytes ≤ 100) (hb : Below base w0 w) (hB : base ≤ w.heap.size)
    (h : ∀ w', w'.ownsRow base e 1 (.slice (some ⟨w.heap.size, 0, none⟩) 0 n) 0 [] → Below base w0 w' → base ≤ w'.heap.size → wpList P ops Q rest (a.put o.dst (.slice (some ⟨w.heap.size, 0, none⟩) 0 n)) w') :
    wpList P ops Q (o :: rest) a w := by
  obtain ⟨i, h1, h2, h3, h4⟩ := E.info
  have hle : bytes * n ≤ 100 * n := Nat.mul_le_mul_right _ hby
  refine wpList_make_own w hgd l c t hop base e i z 1 E.under h1 h2 h3 kl kc C n hl hc hC (by rw [h4]; omega) (by unfold maxLen; omega) hB ?_
  intro w' hown hg
  exact h w' hown (hb.grown hg hB fun k hk => by cases hk) (Nat.le_trans hB hg.size)

theorem Try.infoB : (Try.prog.info? 5).map (fun i => (i.zero, i.size, i.bytes)) = some (some (bv 0), 1, 1) := by kernel_rfl
theorem elemB : Elem Try.prog 25 5 1 (bv 0) := by
  obtain ⟨i0, hi, hz0, hz1, hz2⟩ := info_parts Try.infoB
  exact ⟨Try.underlying25, rfl, i0, hi, hz0, hz1, hz2⟩
theorem textB {w : World} {l : List UInt8} {v : Value} (h : IsB l v w) : (convert 25 9 v).run Try.prog w = .ok (.string ⟨l.toArray⟩) w := h.text _ _ _ Try.underlying25 Try.underlying5 Try.underlying9
/-- Bytes in a row of the call's own. -/
def RetOwn (w : World) (l : List UInt8) (e : Ending) (w' : World) : Prop := ∃ v, e = .returned v ∧ w'.ownsRow w.heap.size 5 1 v l.length (l.map bv) ∧ Below w.heap.size w w'
theorem RetOwn.retB {w w' : World} {l : List UInt8} {e : Ending} (h : RetOwn w l e w') : RetB w l e w' := by
  obtain ⟨v, rfl, h2, h3⟩ := h
  exact ret_own h2 h3
theorem own_of_row {w : World} {g : Nat} {t : TypeId} {xs : List Value} {n base : Nat} (h : Row w g t xs) (hn : xs.length = n) (hb : base ≤ g) (hm : n ≤ 1000100) : w.ownsRow base t 1 (.slice (some ⟨g, 0, none⟩) n n) n xs :=
  ⟨by omega, .inr ⟨g, n, xs.toArray, rfl, hb, h, Nat.le_refl _, by unfold maxLen; omega, by simp [hn], by rw [Nat.mul_one]; exact List.take_of_length_le (by simp [hn])⟩⟩
theorem own_below {w w' : World} {base size n : Nat} {e : TypeId} {v : Value} {xs : List Value} (h : w.ownsRow base e size v n xs) (hb : Below w.heap.size w w') : w'.ownsRow base e size v n xs :=
  ⟨h.1, h.2.elim .inl fun ⟨g, cap, cur, hv, hg, hc, r⟩ => .inr ⟨g, cap, cur, hv, hg, (hb.block g (Array.getElem?_eq_some_iff.1 hc).1).trans hc, r⟩⟩
theorem own_base {w : World} {base base' : Nat} {e : TypeId} {v : Value} {n : Nat} {xs : List Value} (hb : base' ≤ base) (h : w.ownsRow base e 1 v n xs) : w.ownsRow base' e 1 v n xs :=
  ⟨h.1, h.2.imp id fun ⟨g, cap, cur, h1, h2, h3⟩ => ⟨g, cap, cur, h1, Nat.le_trans hb h2, h3⟩⟩
/-- Bytes in a row of the call's own. -/
def OwnB (w : World) (l : List UInt8) (v : Value) (w' : World) : Prop := ∃ n, w'.ownsRow w.heap.size 5 1 v n (l.map bv)
theorem OwnB.isB {w w' : World} {l : List UInt8} {v : Value} (h : OwnB w l v w') : IsB l v w' := h.elim fun _ h => isB_own h
theorem OwnB.nil (w w' : World) : OwnB w [] (.slice none 0 0) w' := ⟨0, World.ownsRow_nil _ _ _ _⟩
theorem OwnB.below {w w1 w2 : World} {l : List UInt8} {v : Value} (h : OwnB w l v w1) (hb : Below w1.heap.size w1 w2) : OwnB w l v w2 := h.elim fun _ h => ⟨_, own_below h hb⟩
theorem OwnB.base {w0 w w' : World} {l : List UInt8} {v : Value} (hb : w0.heap.size ≤ w.heap.size) (h : OwnB w l v w') : OwnB w0 l v w' := h.elim fun _ h => ⟨_, own_base hb h⟩
/-- Bytes in a row of the call's own, and an error. -/
def RetEO (w : World) (p : List UInt8 × Int) (e : Ending) (w' : World) : Prop := ∃ v, e = .returned (.tuple #[v, .int .i64 p.2]) ∧ w'.ownsRow w.heap.size 5 1 v p.1.length (p.1.map bv) ∧ Below w.heap.size w w'
theorem RetEO.e {w w' : World} {p : List UInt8 × Int} {e : Ending} (h : RetEO w p e w') : RetE w p e w' := by
  obtain ⟨v, h1, h2, h3⟩ := h
  exact ⟨v, h1, isB_own h2, h3⟩
theorem RetEO.nil {w w' : World} (n : Int) (hb : Below w.heap.size w w') : RetEO w ([], n) (.returned (.tuple #[.slice none 0 0, .int .i64 n])) w' := ⟨_, rfl, World.ownsRow_nil _ _ _ _, hb⟩
/-- A row that was made later than another one lasts where that one grows. -/
theorem own_fresh {wa w w' : World} {b1 : Nat} {e1 e2 : TypeId} {v1 v2 : Value} {n m : Nat} {xs ys : List Value} (h1 : wa.ownsRow b1 e1 1 v1 n xs) (h2 : w.ownsRow wa.heap.size e2 1 v2 m ys) (hg : w.grownBy w' v1.ownBlock) : w'.ownsRow wa.heap.size e2 1 v2 m ys := by
  refine h2.kept hg ?_
  rcases h2.2 with ⟨rfl, _⟩ | ⟨g2, cap2, cur2, rfl, hge, _⟩
  · exact .inl rfl
  · refine .inr ?_
    rcases h1.2 with ⟨rfl, _⟩ | ⟨g, cap, cur, rfl, _, hc, _⟩
    · simp [Value.ownBlock]
    · simp only [Value.ownBlock, ne_eq, Option.some.injEq]
      intro h
      have := (Array.getElem?_eq_some_iff.1 hc).1
      omega
/-- Of two rows of the call's own, of elements of different types, one lasts where the other grows. -/
theorem own_other {w w' : World} {base base' : Nat} {e1 e2 : TypeId} {v1 v2 : Value} {n m : Nat} {xs ys : List Value} (h1 : w.ownsRow base e1 1 v1 n xs) (h2 : w.ownsRow base' e2 1 v2 m ys) (hne : e1 ≠ e2) (hg : w.grownBy w' v2.ownBlock) : w'.ownsRow base e1 1 v1 n xs := by
  refine h1.kept hg ?_
  rcases h1.2 with ⟨rfl, _⟩ | ⟨g, cap, cur, rfl, _, hc, _⟩
  · exact .inl rfl
  · rcases h2.2 with ⟨rfl, _⟩ | ⟨g2, cap2, cur2, rfl, _, hc2, _⟩
    · exact .inr (by simp [Value.ownBlock])
    · refine .inr ?_
      simp only [Value.ownBlock, ne_eq, Option.some.injEq]
      intro h
      rw [h, hc2] at hc
      injection hc with hc
      injection hc with _ hc _
      exact hne hc.symm
end Go.Proofs.Ytocodcceimeiiaa
