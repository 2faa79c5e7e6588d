
/- Ranges over a function: what a round keeps of memory that the iterator reads behind it. Over any program. -/

import Derived.Test.YtffglnccpbbclaaStr

import Derived.Test.YtffglnccpbbclaaRound

import Derived.RangeFuncNested

import Derived.RangeFuncBound

import Derived.RangeFuncCalls

import Derived.RangeFuncLeaves

import Derived.RangeFuncBox

import Derived.Shelf.Abstract

import Derived.Shelf.RegionOpen

import Derived.OwnWalkIn

import Derived.TacticsInMore

import Derived.LoopNIn

import Derived.LoopIn

namespace Go.Proofs.Ytffglnccpbbclaa

open Go.RowKit

/-- What a round keeps: all below n₀, block Bs, and each block of cells of type T. -/
def Kps (Bs : Nat) (T : TypeId) (n₀ : Nat) (W W' : World) : Prop := Below n₀ W W' ∧ ∀ k o, W.heap[k]? = some o → (k = Bs ∨ ∃ cs, o = .cells cs T (0, 0)) → W'.heap[k]? = some o
section

variable {Bs n₀ : Nat} {T : TypeId} {W X Y Z : World}
theorem Kps.refl (Bs : Nat) (T : TypeId) (n₀ : Nat) (W : World) : Kps Bs T n₀ W W := ⟨Below.refl _ _, fun _ _ h _ => h⟩
theorem Kps.trans (h : Kps Bs T n₀ X Y) (k : Kps Bs T n₀ Y Z) : Kps Bs T n₀ X Z := ⟨h.1.trans k.1, fun i o hi hs => k.2 i o (h.2 i o hi hs) hs⟩
theorem Kps.of_below (h : Below W.heap.size W X) (hn : n₀ ≤ W.heap.size) : Kps Bs T n₀ W X := ⟨h.mono hn, fun k _ hk _ => (h.block k (Array.getElem?_eq_some_iff.1 hk).1).trans hk⟩
theorem Kps.of_grown {row : Option Nat} (h : W.grownBy X row) (hn : n₀ ≤ W.heap.size) (hr : ∀ j, row = some j → n₀ ≤ j ∧ j ≠ Bs ∧ ∀ cs, W.heap[j]? ≠ some (.cells cs T (0, 0))) : Kps Bs T n₀ W X := by
  refine ⟨(Below.refl _ _).grown h hn fun k hk => (hr k hk).1, fun k o hk hs => ?_⟩
  refine (h.block k (Array.getElem?_eq_some_iff.1 hk).1 fun e => ?_).trans hk
  have h1 := hr k e.symm
  rcases hs with rfl | ⟨cs, rfl⟩
  · exact h1.2.1 rfl
  · exact h1.2.2 cs hk
theorem Kps.set {B : Nat} {t : TypeId} {v : Value} (h : Boxed W B t v) (ht : t ≠ T) (hB : B ≠ Bs) (hn : n₀ ≤ B) (u : Value) : Kps Bs T n₀ W (W.setCell ⟨B, 0, none⟩ u) := by
  refine Kps.of_grown (grownBy_setCell' W B u) (Nat.le_trans hn (Nat.le_of_lt h.lt)) fun j hj => ?_
  injection hj with hj
  subst hj
  exact ⟨hn, hB, fun cs e => ht (by have := (show W.heap[B]? = _ from h).symm.trans e; simp at this; exact this.2)⟩
theorem Kps.row {g : Nat} {cs : List Value} (h : Kps Bs T n₀ W X) (hr : Row W g T cs) : Row X g T cs := h.2 g _ hr (.inr ⟨_, rfl⟩)
theorem Kps.box {t : TypeId} {cs : List Value} (h : Kps Bs T n₀ W X) (hr : Row W Bs t cs) : Row X Bs t cs := h.2 Bs _ hr (.inl rfl)
theorem Kps.turn {w : World} (hn : n₀ ≤ w.heap.size) (hBs : Bs < w.heap.size) (W : World) (l : Nat) (o o' : Obj) (hl : w.heap.size ≤ l) (h : W.heap[l]? = some o) (hc : o.isCells = false) (_ : o.isWalk = false) : Kps Bs T n₀ W (W.putObj l o') := by
  have hlt := (Array.getElem?_eq_some_iff.1 h).1
  refine Kps.of_grown (grownBy_putObj' W l o') (by omega) fun j hj => ?_
  injection hj with hj
  subst hj
  exact ⟨by omega, by omega, fun cs e => by rw [h] at e; injection e with e; subst e; cases hc⟩
/-- An append to what the call owns, into a row of another type. -/
theorem Kps.append {base : Nat} {e t : TypeId} {v : Value} {k : Nat} {xs cs : List Value} (hown : W.ownsRow base e 1 v k xs) (hb : n₀ ≤ base) (hT : e ≠ T) (hbox : Row W Bs t cs) (ht : t ≠ e) (hg : W.grownBy X v.ownBlock) (hn : n₀ ≤ W.heap.size) : Kps Bs T n₀ W X := by
  refine Kps.of_grown hg hn fun j hj => ?_
  rcases hown.2 with ⟨rfl, _⟩ | ⟨g, cap, cur, rfl, hge, hgb, _⟩
  · simp [Value.ownBlock] at hj
  · obtain rfl : g = j := by simpa [Value.ownBlock] using hj
    refine ⟨by omega, fun e => ?_, fun cs e => ?_⟩
    · subst e
      have := (show W.heap[g]? = _ from hbox).symm.trans hgb
      simp at this
      exact ht this.2
    · rw [hgb] at e
      simp at e
      exact hT e.2
/-- What lies below a world's end lies on: nothing else than that has turned. -/
theorem below_others {W X : World} (h : Below W.heap.size W X) : KeepsOthers W X := ⟨h.size, fun k _ hk _ => (h.block k (Array.getElem?_eq_some_iff.1 hk).1).trans hk⟩
theorem below_grown {W X : World} (h : Below W.heap.size W X) : W.grownBy X none := ⟨h.os, h.tape, h.output, h.size, fun k hk _ => h.block k hk⟩
theorem own_others {base : Nat} {e : TypeId} {v : Value} {k : Nat} {xs : List Value} (hown : W.ownsRow base e 1 v k xs) (hg : W.grownBy X v.ownBlock) : KeepsOthers W X :=
  KeepsOthers.of_grownBy hg fun j o ej hj => by
    rcases hown.2 with ⟨rfl, _⟩ | ⟨g, cap, cur, rfl, _, hgb, _⟩
    · simp [Value.ownBlock] at ej
    · obtain rfl : g = j := by simpa [Value.ownBlock] using ej
      rw [hgb] at hj; cases hj; rfl
theorem own_later {base size : Nat} {e : TypeId} {v : Value} {k : Nat} {xs : List Value} (hown : W.ownsRow base e size v k xs) (h : Below W.heap.size W X) : X.ownsRow base e size v k xs :=
  hown.kept (below_grown h) (by
    by_cases hv : v.ownBlock = none
    · exact .inl hv
    · exact .inr hv)
/-- Another block, across an append to a row of another type. -/
theorem Row.kept {g base : Nat} {t e : TypeId} {u v : Value} {k : Nat} {xs : List Value} (h : Row W g t [u]) (hte : t ≠ e) (hown : W.ownsRow base e 1 v k xs) (hg : W.grownBy X v.ownBlock) : Row X g t [u] :=
  (show Boxed W g t u from h).kept hg ((show Boxed W g t u from h).not_row hte hown)
/-- 'out = append(out, ..)', out in a box: what is known behind the append (w2) and behind the store (w3). -/
theorem Boxed.put {B base : Nat} {t e : TypeId} {v v' : Value} {k k' : Nat} {xs ys : List Value} (hv : Boxed W B t v) (hte : t ≠ e) (hrow : W.ownsRow base e 1 v k xs) (hown' : X.ownsRow base e 1 v' k' ys) (hg : W.grownBy X v.ownBlock) :
    Boxed X B t v ∧ Boxed (X.setCell ⟨B, 0, none⟩ v') B t v' ∧ (X.setCell ⟨B, 0, none⟩ v').ownsRow base e 1 v' k' ys ∧ KeepsOthers W (X.setCell ⟨B, 0, none⟩ v') := by
  have h1 := hv.kept hg (hv.not_row hte hrow)
  exact ⟨h1, h1.set v', hown'.kept (grownBy_setCell' X B v') (.inr (h1.not_row hte hown').symm), (own_others hrow hg).trans (KeepsOthers.setCell _ _ _)⟩
/-- What lies in cells lies on where a block that is no cells is turned. -/
theorem lies_turn {A : Option Addr} {xs : List Value} {D : Nat} {o : Obj} (h : Lies W A xs) (o' : Obj) (hl : W.heap[D]? = some o) (ho : o.isCells = false) : Lies (W.putObj D o') A xs := by
  rcases h with h | ⟨ad, hA, hlt, hc⟩
  · exact .inl h
  · exact .inr ⟨ad, hA, Nat.lt_of_lt_of_le hlt (grownBy_putObj' W D o').size, fun j u hu => cell_kept (hc j u hu) (grownBy_putObj' W D o') (fun r e => by cases e; exact ⟨o, hl, ho⟩)⟩
theorem isB_turn {l : List UInt8} {v : Value} {D : Nat} {o : Obj} (h : IsB l v W) (o' : Obj) (hl : W.heap[D]? = some o) (ho : o.isCells = false) : IsB l v (W.putObj D o') := by
  obtain ⟨A, c, h1, h2, h3, h4, h5⟩ := h
  exact ⟨A, c, h1, h2, h3, h4, lies_turn h5 o' hl ho⟩
/-- A block of so many cells speaks of cells alone. -/
theorem row_own {β : Type} (g : Nat) (t : TypeId) (f : β → List Value) : Own (fun s W => Row W g t (f s)) := fun s X Y row hs hg hrow =>
  (hg.block g (Array.getElem?_eq_some_iff.1 (show X.heap[g]? = _ from hs)).1 (fun e' => by obtain ⟨o, ho, hc⟩ := hrow g e'.symm; rw [show X.heap[g]? = _ from hs] at ho; cases ho; cases hc)).trans hs
end

/-- The places at which rounds begin: each one where the one ahead ended. -/
inductive Chain {α : Type} (at_ : α → Nat) (adv : α → Nat) : List α → Nat → Prop
  | nil : Chain at_ adv [] 0
  | snoc {xs : List α} {a : Nat} (h : Chain at_ adv xs a) (x : α) (hx : at_ x = a) : Chain at_ adv (xs ++ [x]) (a + adv x)
theorem Chain.length {α : Type} {at_ adv : α → Nat} (h1 : ∀ x, 1 ≤ adv x) {xs : List α} {a : Nat} (h : Chain at_ adv xs a) : xs.length ≤ a := by
  induction h with
  | nil => exact Nat.le_refl _
  | snoc h x hx ih => have := h1 x; rw [List.length_append, List.length_singleton]; omega
end Go.Proofs.Ytffglnccpbbclaa
