/- Texts that the claims of this seat share, part 9: Seq YPlain YRef YRTake YLeaf YIter YPut YTake QPlain QRef QRTake QIs KPlain KRef KLib. -/
import Derived.RangeFuncNested
import Derived.RangeFuncBound
import Derived.RangeFuncCalls
import Derived.RangeFuncLeaves
import Derived.RangeFuncBox
import Derived.Shelf.Abstract
import Derived.Shelf.RegionOpen
import Derived.OwnWalkIn
import Derived.TacticsInMore
import Derived.LoopNIn
import Derived.LoopIn
import Derived.Sort.Walk0
import Derived.Laws.Strings
import Derived.WalkKit
import Derived.Lib.Strings
import Derived.Lib.Slices
import Derived.Lib.Small
import Derived.Lib.Bytealg
import Derived.Test.YtlibofmpnlfelaaGreatDoorAG8
/- Ranges over a function: what a round keeps of memory that the iterator reads behind it. Over any program. -/



























namespace Go.Proofs.YtlibofmpnlfelaaGreatDoor

open Go.RowKit

/-- What a round keeps: all below n₀, block Bs, and each block of cells of type T. -/
def Kps (Bs : Nat) (T : TypeId) (n₀ : Nat) (W W' : World) : Prop := Below n₀ W W' ∧ ∀ k o, W.heap[k]? = some o → (k = Bs ∨ ∃ cs, o = .cells cs T (0, 0)) → W'.heap[k]? = some o
section

variable {Bs n₀ : Nat} {T : TypeId} {W X Y Z : World}
theorem Kps.refl (Bs : Nat) (T : TypeId) (n₀ : Nat) (W : World) : Kps Bs T n₀ W W := ⟨Below.refl _ _, fun _ _ h _ => h⟩
theorem Kps.trans (h : Kps Bs T n₀ X Y) (k : Kps Bs T n₀ Y Z) : Kps Bs T n₀ X Z := ⟨h.1.trans k.1, fun i o hi hs => k.2 i o (h.2 i o hi hs) hs⟩
theorem Kps.of_below (h : Below W.heap.size W X) (hn : n₀ ≤ W.heap.size) : Kps Bs T n₀ W X := ⟨h.mono hn, fun k _ hk _ => (h.block k (Array.getElem?_eq_some_iff.1 hk).1).trans hk⟩
theorem Kps.of_grown {row : Option Nat} (h : W.grownBy X row) (hn : n₀ ≤ W.heap.size) (hr : ∀ j, row = some j → n₀ ≤ j ∧ j ≠ Bs ∧ ∀ cs, W.heap[j]? ≠ some (.cells cs T (0, 0))) : Kps Bs T n₀ W X := by
  refine ⟨(Below.refl _ _).grown h hn fun k hk => (hr k hk).1, fun k o hk hs => ?_⟩
  refine (h.block k (Array.getElem?_eq_some_iff.1 hk).1 fun e => ?_).trans hk
  have h1 := hr k e.symm
  rcases hs with rfl | ⟨cs, rfl⟩
  · exact h1.2.1 rfl
  · exact h1.2.2 cs hk
theorem Kps.set {B : Nat} {t : TypeId} {v : Value} (h : Boxed W B t v) (ht : t ≠ T) (hB : B ≠ Bs) (hn : n₀ ≤ B) (u : Value) : Kps Bs T n₀ W (W.setCell ⟨B, 0, none⟩ u) := by
  refine Kps.of_grown (grownBy_setCell' W B u) (Nat.le_trans hn (Nat.le_of_lt h.lt)) fun j hj => ?_
  injection hj with hj
  subst hj
  exact ⟨hn, hB, fun cs e => ht (by have := (show W.heap[B]? = _ from h).symm.trans e; simp at this; exact this.2)⟩
theorem Kps.row {g : Nat} {cs : List Value} (h : Kps Bs T n₀ W X) (hr : Row W g T cs) : Row X g T cs := h.2 g _ hr (.inr ⟨_, rfl⟩)
theorem Kps.box {t : TypeId} {cs : List Value} (h : Kps Bs T n₀ W X) (hr : Row W Bs t cs) : Row X Bs t cs := h.2 Bs _ hr (.inl rfl)
theorem Kps.turn {w : World} (hn : n₀ ≤ w.heap.size) (hBs : Bs < w.heap.size) (W : World) (l : Nat) (o o' : Obj) (hl : w.heap.size ≤ l) (h : W.heap[l]? = some o) (hc : o.isCells = false) (_ : o.isWalk = false) : Kps Bs T n₀ W (W.putObj l o') := by
  have hlt := (Array.getElem?_eq_some_iff.1 h).1
  refine Kps.of_grown (grownBy_putObj' W l o') (by omega) fun j hj => ?_
  injection hj with hj
  subst hj
  exact ⟨by omega, by omega, fun cs e => by rw [h] at e; injection e with e; subst e; cases hc⟩
/-- An append to what the call owns, into a row of another type. -/
theorem Kps.append {base : Nat} {e t : TypeId} {v : Value} {k : Nat} {xs cs : List Value} (hown : W.ownsRow base e 1 v k xs) (hb : n₀ ≤ base) (hT : e ≠ T) (hbox : Row W Bs t cs) (ht : t ≠ e) (hg : W.grownBy X v.ownBlock) (hn : n₀ ≤ W.heap.size) : Kps Bs T n₀ W X := by
  refine Kps.of_grown hg hn fun j hj => ?_
  rcases hown.2 with ⟨rfl, _⟩ | ⟨g, cap, cur, rfl, hge, hgb, _⟩
  · simp [Value.ownBlock] at hj
  · obtain rfl : g = j := by simpa [Value.ownBlock] using hj
    refine ⟨by omega, fun e => ?_, fun cs e => ?_⟩
    · subst e
      have := (show W.heap[g]? = _ from hbox).symm.trans hgb
      simp at this
      exact ht this.2
    · rw [hgb] at e
      simp at e
      exact hT e.2
/-- What lies below a world's end lies on: nothing else than that has turned. -/
theorem below_others {W X : World} (h : Below W.heap.size W X) : KeepsOthers W X := ⟨h.size, fun k _ hk _ => (h.block k (Array.getElem?_eq_some_iff.1 hk).1).trans hk⟩
theorem below_grown {W X : World} (h : Below W.heap.size W X) : W.grownBy X none := ⟨h.os, h.tape, h.output, h.size, fun k hk _ => h.block k hk⟩
theorem own_others {base : Nat} {e : TypeId} {v : Value} {k : Nat} {xs : List Value} (hown : W.ownsRow base e 1 v k xs) (hg : W.grownBy X v.ownBlock) : KeepsOthers W X :=
  KeepsOthers.of_grownBy hg fun j o ej hj => by
    rcases hown.2 with ⟨rfl, _⟩ | ⟨g, cap, cur, rfl, _, hgb, _⟩
    · simp [Value.ownBlock] at ej
    · obtain rfl : g = j := by simpa [Value.ownBlock] using ej
      rw [hgb] at hj; cases hj; rfl
theorem own_later {base size : Nat} {e : TypeId} {v : Value} {k : Nat} {xs : List Value} (hown : W.ownsRow base e size v k xs) (h : Below W.heap.size W X) : X.ownsRow base e size v k xs :=
  hown.kept (below_grown h) (by
    by_cases hv : v.ownBlock = none
    · exact .inl hv
    · exact .inr hv)
/-- Another block, across an append to a row of another type. -/
theorem Row.kept {g base : Nat} {t e : TypeId} {u v : Value} {k : Nat} {xs : List Value} (h : Row W g t [u]) (hte : t ≠ e) (hown : W.ownsRow base e 1 v k xs) (hg : W.grownBy X v.ownBlock) : Row X g t [u] :=
  (show Boxed W g t u from h).kept hg ((show Boxed W g t u from h).not_row hte hown)
/-- 'out = append(out, ..)', out in a box: what is known behind the append (w2) and behind the store (w3). -/
theorem Boxed.put {B base : Nat} {t e : TypeId} {v v' : Value} {k k' : Nat} {xs ys : List Value} (hv : Boxed W B t v) (hte : t ≠ e) (hrow : W.ownsRow base e 1 v k xs) (hown' : X.ownsRow base e 1 v' k' ys) (hg : W.grownBy X v.ownBlock) :
    Boxed X B t v ∧ Boxed (X.setCell ⟨B, 0, none⟩ v') B t v' ∧ (X.setCell ⟨B, 0, none⟩ v').ownsRow base e 1 v' k' ys ∧ KeepsOthers W (X.setCell ⟨B, 0, none⟩ v') := by
  have h1 := hv.kept hg (hv.not_row hte hrow)
  exact ⟨h1, h1.set v', hown'.kept (grownBy_setCell' X B v') (.inr (h1.not_row hte hown').symm), (own_others hrow hg).trans (KeepsOthers.setCell _ _ _)⟩
/-- A block of so many cells speaks of cells alone. -/
theorem row_own {β : Type} (g : Nat) (t : TypeId) (f : β → List Value) : Own (fun s W => Row W g t (f s)) := fun s X Y row hs hg hrow =>
  (hg.block g (Array.getElem?_eq_some_iff.1 (show X.heap[g]? = _ from hs)).1 (fun e' => by obtain ⟨o, ho, hc⟩ := hrow g e'.symm; rw [show X.heap[g]? = _ from hs] at ho; cases ho; cases hc)).trans hs
end

/-- The places at which rounds begin: each one where the one ahead ended. -/
inductive Chain {α : Type} (at_ : α → Nat) (adv : α → Nat) : List α → Nat → Prop
  | nil : Chain at_ adv [] 0
  | snoc {xs : List α} {a : Nat} (h : Chain at_ adv xs a) (x : α) (hx : at_ x = a) : Chain at_ adv (xs ++ [x]) (a + adv x)
theorem Chain.length {α : Type} {at_ adv : α → Nat} (h1 : ∀ x, 1 ≤ adv x) {xs : List α} {a : Nat} (h : Chain at_ adv xs a) : xs.length ≤ a := by
  induction h with
  | nil => exact Nat.le_refl _
  | snoc h x hx ih => have := h1 x; rw [List.length_append, List.length_singleton]; omega
end Go.Proofs.YtlibofmpnlfelaaGreatDoor

/- Runs of bytes (layer 5), as plain mathematics: parts of rows of bytes, laid down and taken. -/

namespace Go.Proofs.YtlibofmpnlfelaaGreatDoor

/-- How many bytes at the front are as the first one: 130 at most. -/
def ysame : List UInt8 → Nat
  | [] => 0
  | x :: l => 1 + min 129 (l.takeWhile (· == x)).length
theorem ysame_cons (x : UInt8) (l : List UInt8) : ysame (x :: l) = 1 + min 129 (l.takeWhile (· == x)).length := rfl
theorem takeWhile_len {α : Type} (p : α → Bool) : ∀ l : List α, (l.takeWhile p).length ≤ l.length
  | [] => by simp
  | x :: l => by
    rw [List.takeWhile_cons]
    split
    · have := takeWhile_len p l; simp; omega
    · simp
theorem ysame_le (l : List UInt8) : ysame l ≤ l.length := by
  cases l with
  | nil => simp [ysame]
  | cons x l => have := takeWhile_len (· == x) l; rw [ysame_cons, List.length_cons]; omega
theorem ysame_130 (l : List UInt8) : ysame l ≤ 130 := by
  cases l with
  | nil => simp [ysame]
  | cons x l => rw [ysame_cons]; omega
theorem ysame_pos {l : List UInt8} (h : l ≠ []) : 1 ≤ ysame l := by
  cases l with
  | nil => exact absurd rfl h
  | cons x l => rw [ysame_cons]; omega
/-- How many bytes belong to a list that begins here: up to the next run, or to 128. (k: how many there are already.) -/
def ylist : List UInt8 → Nat → Nat
  | [], k => k
  | x :: l, k => if k < 128 ∧ ysame (x :: l) < 3 then ylist l (k + 1) else k
theorem ylist_ge : ∀ (l : List UInt8) (k : Nat), k ≤ ylist l k
  | [], _ => Nat.le_refl _
  | x :: l, k => by
    rw [ylist]
    split
    · have := ylist_ge l (k + 1); omega
    · exact Nat.le_refl _
theorem ylist_le : ∀ (l : List UInt8) (k : Nat), ylist l k ≤ k + l.length
  | [], _ => by simp [ylist]
  | x :: l, k => by
    rw [ylist]
    split
    · have := ylist_le l (k + 1); simp; omega
    · omega
theorem ylist_128 : ∀ (l : List UInt8) (k : Nat), k ≤ 128 → ylist l k ≤ 128
  | [], _, h => h
  | x :: l, k, h => by
    rw [ylist]
    split
    · exact ylist_128 l (k + 1) (by omega)
    · exact h
theorem ylist_pos {l : List UInt8} (h : l ≠ []) (h3 : ysame l < 3) : 1 ≤ ylist l 0 := by
  cases l with
  | nil => exact absurd rfl h
  | cons x l => rw [ylist, if_pos ⟨by omega, h3⟩]; exact ylist_ge l 1
/-- A row of bytes as parts. (The first number: more rounds than there are bytes.) -/
def yputs : Nat → List UInt8 → List UInt8
  | 0, _ => []
  | _ + 1, [] => []
  | f + 1, x :: l => if 3 ≤ ysame (x :: l) then UInt8.ofNat (ysame (x :: l) - 3) :: x :: yputs f ((x :: l).drop (ysame (x :: l)))
    else UInt8.ofNat (256 - ylist (x :: l) 0) :: ((x :: l).take (ylist (x :: l) 0) ++ yputs f ((x :: l).drop (ylist (x :: l) 0)))
theorem yputs_more : ∀ (f g : Nat) (l : List UInt8), l.length ≤ f → l.length ≤ g → yputs f l = yputs g l
  | 0, 0, _, _, _ => rfl
  | 0, g + 1, l, h, _ => by obtain rfl : l = [] := List.eq_nil_of_length_eq_zero (by omega); rfl
  | f + 1, 0, l, _, h => by obtain rfl : l = [] := List.eq_nil_of_length_eq_zero (by omega); rfl
  | f + 1, g + 1, [], _, _ => rfl
  | f + 1, g + 1, x :: l, h, h' => by
    have h1 := ysame_pos (l := x :: l) (by simp)
    rw [yputs, yputs]
    split
    · rw [yputs_more f g _ (by rw [List.length_drop]; omega) (by rw [List.length_drop]; omega)]
    · rename_i h3
      have h2 := ylist_pos (l := x :: l) (by simp) (by omega)
      rw [yputs_more f g _ (by rw [List.length_drop]; omega) (by rw [List.length_drop]; omega)]
def yput (l : List UInt8) : List UInt8 := yputs l.length l
theorem yput_nil : yput [] = [] := rfl
theorem yput_run (x : UInt8) (l : List UInt8) (h : 3 ≤ ysame (x :: l)) : yput (x :: l) = UInt8.ofNat (ysame (x :: l) - 3) :: x :: yput ((x :: l).drop (ysame (x :: l))) := by
  unfold yput
  rw [List.length_cons, yputs, if_pos h, yputs_more _ _ _ (by rw [List.length_drop, List.length_cons]; omega) (Nat.le_refl _)]
theorem yput_list (x : UInt8) (l : List UInt8) (h : ysame (x :: l) < 3) : yput (x :: l) = UInt8.ofNat (256 - ylist (x :: l) 0) :: ((x :: l).take (ylist (x :: l) 0) ++ yput ((x :: l).drop (ylist (x :: l) 0))) := by
  have h2 := ylist_pos (l := x :: l) (by simp) h
  unfold yput
  rw [List.length_cons, yputs, if_neg (by omega), yputs_more _ _ _ (by rw [List.length_drop, List.length_cons]; omega) (Nat.le_refl _)]
theorem yput_len : ∀ (n : Nat) (l : List UInt8), l.length ≤ n → (yput l).length ≤ 2 * l.length
  | _, [], _ => by simp [yput_nil]
  | 0, x :: l, h => by simp at h
  | n + 1, x :: l, h => by
    have h1 := ysame_pos (l := x :: l) (by simp)
    have h2 := ysame_le (x :: l)
    by_cases h3 : 3 ≤ ysame (x :: l)
    · rw [yput_run x l h3]
      have := yput_len n ((x :: l).drop (ysame (x :: l))) (by rw [List.length_drop]; simp at h ⊢; omega)
      rw [List.length_drop] at this
      simp only [List.length_cons] at *
      omega
    · have h5 := ylist_pos (l := x :: l) (by simp) (by omega)
      have h6 := ylist_le (x :: l) 0
      rw [yput_list x l (by omega)]
      have := yput_len n ((x :: l).drop (ylist (x :: l) 0)) (by rw [List.length_drop]; simp at h ⊢; omega)
      rw [List.length_drop] at this
      rw [List.length_cons, List.length_append, List.length_take]
      simp only [List.length_cons] at *
      omega
/-- So many bytes out of parts, and what stands behind. -/
def ytakes : Nat → Nat → List UInt8 → Option (List UInt8 × List UInt8)
  | _, 0, l => some ([], l)
  | 0, _ + 1, _ => none
  | _ + 1, _ + 1, [] => none
  | f + 1, m + 1, c :: l =>
    if c.toNat < 128 then
      match l with
      | [] => none
      | x :: r => if m + 1 < c.toNat + 3 then none else (ytakes f (m + 1 - (c.toNat + 3)) r).map fun p => (List.replicate (c.toNat + 3) x ++ p.1, p.2)
    else if l.length < 256 - c.toNat then none else if m + 1 < 256 - c.toNat then none else (ytakes f (m + 1 - (256 - c.toNat)) (l.drop (256 - c.toNat))).map fun p => (l.take (256 - c.toNat) ++ p.1, p.2)
theorem ytakes_cons (f m : Nat) (c : UInt8) (l : List UInt8) : ytakes (f + 1) (m + 1) (c :: l) =
    if c.toNat < 128 then
      match l with
      | [] => none
      | x :: r => if m + 1 < c.toNat + 3 then none else (ytakes f (m + 1 - (c.toNat + 3)) r).map fun p => (List.replicate (c.toNat + 3) x ++ p.1, p.2)
    else if l.length < 256 - c.toNat then none else if m + 1 < 256 - c.toNat then none else (ytakes f (m + 1 - (256 - c.toNat)) (l.drop (256 - c.toNat))).map fun p => (l.take (256 - c.toNat) ++ p.1, p.2) := rfl
theorem ytakes_more : ∀ (f g m : Nat) (l : List UInt8), l.length ≤ f → l.length ≤ g → ytakes f m l = ytakes g m l
  | 0, 0, _, _, _, _ => rfl
  | _, _, 0, _, _, _ => by simp [ytakes]
  | 0, g + 1, m + 1, l, h, _ => by obtain rfl : l = [] := List.eq_nil_of_length_eq_zero (by omega); rfl
  | f + 1, 0, m + 1, l, _, h => by obtain rfl : l = [] := List.eq_nil_of_length_eq_zero (by omega); rfl
  | f + 1, g + 1, m + 1, [], _, _ => rfl
  | f + 1, g + 1, m + 1, c :: l, h, h' => by
    have hc := c.toNat_lt
    simp only [List.length_cons] at h h'
    rw [ytakes_cons, ytakes_cons]
    split
    · cases l with
      | nil => rfl
      | cons x r => simp only [List.length_cons] at h h'; simp only []; rw [ytakes_more f g _ r (by omega) (by omega)]
    · rw [ytakes_more f g _ (l.drop (256 - c.toNat)) (by rw [List.length_drop]; omega) (by rw [List.length_drop]; omega)]
def ytake (m : Nat) (l : List UInt8) : Option (List UInt8 × List UInt8) := ytakes l.length m l
theorem ytake_zero (l : List UInt8) : ytake 0 l = some ([], l) := by unfold ytake; cases l.length <;> rfl
theorem ytake_run {m : Nat} (h : 0 < m) {c : UInt8} (hc : c.toNat < 128) (x : UInt8) (r : List UInt8) :
    ytake m (c :: x :: r) = if m < c.toNat + 3 then none else (ytake (m - (c.toNat + 3)) r).map fun p => (List.replicate (c.toNat + 3) x ++ p.1, p.2) := by
  obtain ⟨k, rfl⟩ : ∃ k, m = k + 1 := ⟨m - 1, by omega⟩
  unfold ytake
  rw [List.length_cons, ytakes_cons, if_pos hc]
  simp only []
  rw [ytakes_more _ r.length _ r (by simp) (Nat.le_refl _)]
end Go.Proofs.YtlibofmpnlfelaaGreatDoor

/- Contracts of layer 5's reference: same, Put, Take. -/





namespace Go.Proofs.YtlibofmpnlfelaaGreatDoor

open Go.RowKit

theorem takeWhile_at {α : Type} (p : α → Bool) : ∀ (l : List α) (j : Nat) (h : j < l.length), j ≤ (l.takeWhile p).length → (j < (l.takeWhile p).length ↔ p l[j] = true)
  | x :: l, 0, _, _ => by
    rw [List.takeWhile_cons]
    cases hx : p x <;> simp [hx]
  | x :: l, j + 1, h, hj => by
    rw [List.takeWhile_cons] at hj ⊢
    cases hx : p x with
    | false => rw [hx] at hj; simp at hj
    | true =>
      rw [hx] at hj
      simp only [if_true, List.length_cons] at hj ⊢
      have := takeWhile_at p l j (by simpa using h) (by omega)
      rw [List.getElem_cons_succ, ← this]
      omega
/-- Of bytes from a place on: what is known when k of them are as the first, and how it goes on. -/
theorem ysame_step {l : List UInt8} {a k : Nat} (ha : a < l.length) (hk : 1 ≤ k) (h : k ≤ ysame (l.drop a)) :
    (a + k = l.length → ysame (l.drop a) = k) ∧ (k = 130 → ysame (l.drop a) = k) ∧ (∀ h' : a + k < l.length, k < 130 → (l[a + k] = l[a] → k + 1 ≤ ysame (l.drop a)) ∧ (l[a + k] ≠ l[a] → ysame (l.drop a) = k)) := by
  rw [List.drop_eq_getElem_cons ha, ysame_cons] at h ⊢
  have hT := takeWhile_len (· == l[a]) (l.drop (a + 1))
  rw [List.length_drop] at hT
  refine ⟨fun h1 => by omega, fun h1 => by omega, fun h' h130 => ?_⟩
  have h2 := takeWhile_at (· == l[a]) (l.drop (a + 1)) (k - 1) (by rw [List.length_drop]; omega) (by omega)
  have h3 : (l.drop (a + 1))[k - 1]'(by rw [List.length_drop]; omega) = l[a + k] := by
    rw [List.getElem_drop]
    congr 1
    omega
  rw [h3, beq_iff_eq] at h2
  exact ⟨fun h4 => by have := h2.2 h4; omega, fun h4 => by have h5 := fun h5 => h4 (h2.1 h5); have h6 := Nat.le_of_not_lt h5; omega⟩

def SameRel5 (l : List UInt8) (a : Nat) (w : World) (v : Value) (wr : World) : Prop := ∃ k q : Nat, v = .int .i64 (k : Int) ∧ 1 ≤ k ∧ k ≤ ysame (l.drop a) ∧ wr = w.drewN q
def SamePost (l : List UInt8) (a : Nat) (w : World) (e : Ending) (w' : World) : Prop := e = .returned (.int .i64 (ysame (l.drop a) : Int)) ∧ ∃ q, w' = w.drewN q
set_option maxHeartbeats 1000000 in
set_option maxRecDepth 100000 in
theorem rsame_any (A : Option Addr) (n c : Nat) (l : List UInt8) (a : Nat) (w : World) (hn : l.length = n) (hb : n ≤ 1000000) (ha : a < n) (hl : Lies w A (l.map bv)) :
    Calls Tryz.prog 66 #[.slice A n c, .int .i64 (a : Int)] w (SamePost l a w) := by
  have hal : a < l.length := by omega
  obtain ⟨ad, rfl, _, hcell⟩ := hl.cell (k := a) (by rw [List.length_map]; exact hal)
  have HL := Lib.hid hl
  obtain ⟨x, hx⟩ : ∃ x : Nat, x = l[a].toNat := ⟨_, rfl⟩
  have hcx : ∀ q, (w.drewN q).cell? (ad.add a) = some (.int .u8 (x : Int)) := fun q => by
    show w.cell? _ = _
    rw [hcell, List.getElem_map, hx]; rfl
  have HC := Lib.hid hcx
  have HX := Lib.hid hx
  have HN := Lib.hid hn
  have hpos : 1 ≤ ysame (l.drop a) := ysame_pos (by intro h; have := congrArg List.length h; rw [List.length_drop, List.length_nil] at this; omega)
  have hsl := ysame_le (l.drop a)
  rw [List.length_drop, hn] at hsl
  have hs130 := ysame_130 (l.drop a)
  clear hn hl hcell hx hcx
  go_enter Tryz.func66, Tryz.ntmps66
  go_wp2
  go_loopw [5] (SameRel5 l a w) (fun v _ => 131 - (intOf v).toNat)
  case atStart => exact ⟨1, 0, rfl, Nat.le_refl _, hpos, rfl⟩
  case round =>
    obtain ⟨k, q0, rfl, hk1, hk, hw⟩ := hrel
    have HW := Lib.hid hw
    clear hw
    have hst := ysame_step (l := l) (a := a) (k := k) hal hk1 hk
    have HST := Lib.hid hst
    have hcx : wr.cell? (ad.add a) = some (.int .u8 (x : Int)) := by rw [HW.out]; exact HC.out q0
    obtain ⟨q, hq⟩ : ∃ q, q = a + k := ⟨_, rfl⟩
    have hwq : IntKind.i64.wrap ((a : Int) + (k : Int)) = (q : Int) := by rw [IntKind.wrap_i64]; omega
    have HQ := Lib.hid hq
    clear hst hq hpos
    by_cases h1 : q < n
    · have d1 : decide (q < n) = true := decide_eq_true h1
      have h1i : (q : Int) < (n : Int) := by omega
      have h2i : (a : Int) < (n : Int) := by omega
      by_cases h2 : k < 130
      · have d2 : decide ((k : Int) < 130) = true := decide_eq_true (by omega)
        have hql : q < l.length := by have := HN.out; omega
        obtain ⟨_, had, _, hcell⟩ := HL.out.cell (k := q) (by rw [List.length_map]; exact hql)
        injection had with had
        subst had
        obtain ⟨y, hy⟩ : ∃ y : Nat, y = l[q].toNat := ⟨_, rfl⟩
        have hcy : wr.cell? (ad.add q) = some (.int .u8 (y : Int)) := by
          rw [HW.out]
          show w.cell? _ = _
          rw [hcell, List.getElem_map, hy]; rfl
        have HY := Lib.hid hy
        clear hy hcell
        by_cases hxy : y = x
        · subst hxy
          have d3 : ((y : Int) == (y : Int)) = true := by simp
          have hnext : k + 1 ≤ ysame (l.drop a) := by
            have h3 := (HST.out.2.2 (by have := HQ.out; have := HN.out; omega) h2).1
            refine h3 (UInt8.toNat_inj.1 ?_)
            have h4 := HQ.out
            subst h4
            rw [← HX.out, ← HY.out]
          go_wp2
          go_quiet (fail)
          go_wp2
          go_roundw
          case rel => exact ⟨k + 1, _, by go_num, by omega, hnext, by rw [HW.out]; exact World.drewN_drewN _ _ _⟩
          case measure => simp [intOf]; omega
        · have d3 : ((y : Int) == (x : Int)) = false := by simpa using (fun h => hxy (by omega))
          have hend : ysame (l.drop a) = k := by
            have h3 := (HST.out.2.2 (by have := HQ.out; have := HN.out; omega) h2).2
            refine h3 fun h => hxy ?_
            have h4 := HQ.out
            subst h4
            rw [HX.out, HY.out, h]
          have HE := Lib.hid hend
          clear hend
          go_wp2
          go_quiet (fail)
          go_wp2
          go_ret
          exact ⟨ret_int (by rw [HE.out]), _, by rw [HW.out]; exact World.drewN_drewN _ _ _⟩
      · have d2 : decide ((k : Int) < 130) = false := decide_eq_false (by omega)
        have HE := Lib.hid (HST.out.2.1 (by omega))
        go_wp2
        go_quiet (fail)
        go_wp2
        go_ret
        exact ⟨ret_int (by rw [HE.out]), _, by rw [HW.out]; exact World.drewN_drewN _ _ _⟩
    · have d1 : decide (q < n) = false := decide_eq_false h1
      have HE := Lib.hid (HST.out.1 (by have := HQ.out; have := HN.out; omega))
      go_wp2
      go_quiet (fail)
      go_wp2
      go_ret
      exact ⟨ret_int (by rw [HE.out]), _, by rw [HW.out]; exact World.drewN_drewN _ _ _⟩

/-- What Put answers. -/
def yputE (l : List UInt8) : List UInt8 × Int := if l.length ≤ 4096 then (yput l, 0) else ([], 3)
theorem drop_at {l : List UInt8} {a : Nat} (h : a < l.length) : l.drop a = l[a] :: l.drop (a + 1) := List.drop_eq_getElem_cons h
theorem yput_run_at {l : List UInt8} {a : Nat} (h : a < l.length) (h3 : 3 ≤ ysame (l.drop a)) : yput (l.drop a) = [UInt8.ofNat (ysame (l.drop a) - 3), l[a]] ++ yput (l.drop (a + ysame (l.drop a))) := by
  rw [← List.drop_drop]
  conv => lhs; rw [drop_at h, yput_run _ _ (by rw [← drop_at h]; exact h3), ← drop_at h]
  rfl
theorem yput_list_at {l : List UInt8} {a : Nat} (h : a < l.length) (h3 : ysame (l.drop a) < 3) : yput (l.drop a) = (UInt8.ofNat (256 - ylist (l.drop a) 0) :: (l.drop a).take (ylist (l.drop a) 0)) ++ yput (l.drop (a + ylist (l.drop a) 0)) := by
  rw [← List.drop_drop]
  conv => lhs; rw [drop_at h, yput_list _ _ (by rw [← drop_at h]; exact h3), ← drop_at h]
  rfl
theorem ylist_at {l : List UInt8} {b k : Nat} (h : b < l.length) : ylist (l.drop b) k = if k < 128 ∧ ysame (l.drop b) < 3 then ylist (l.drop (b + 1)) (k + 1) else k := by
  rw [drop_at h, ylist]
def RPutRel5 (l : List UInt8) (w : World) (v a : Value) (wr : World) : Prop :=
  ∃ (k : Nat) (m : List UInt8), k ≤ l.length ∧ a = .int .i64 (k : Int) ∧ m ++ yput (l.drop k) = yput l ∧ wr.ownsRow w.heap.size 5 1 v m.length (m.map bv) ∧ Below w.heap.size w wr ∧ w.heap.size ≤ wr.heap.size
def RPutRel6 (l : List UInt8) (a : Nat) (w : World) (e : Value) (wr : World) : Prop :=
  ∃ E k q : Nat, e = .int .i64 (E : Int) ∧ E = a + k ∧ E ≤ l.length ∧ k ≤ 128 ∧ ylist (l.drop E) k = ylist (l.drop a) 0 ∧ wr = w.drewN q
set_option maxHeartbeats 4000000 in
set_option maxRecDepth 100000 in
theorem rput5_any (l : List UInt8) (v : Value) (w : World) (hv : IsB l v w) (hb : l.length ≤ 1000000) :
    Calls Tryz.prog 42 #[v] w (RetE w (yputE l)) := by
  obtain ⟨A, c, rfl, hA, hnc, hcm, hl⟩ := hv
  obtain ⟨n, hn⟩ : ∃ n, n = l.length := ⟨_, rfl⟩
  rw [← hn] at hA hnc hb ⊢
  by_cases hbig : n ≤ 4096
  · have hE : Hid (yputE l = (yput l, 0)) := Lib.hid (by unfold yputE; rw [if_pos (by omega)])
    have hbi : ¬ (4096 : Int) < (n : Int) := by omega
    have hci : (c : Int) ≤ 9223372036854775807 := by unfold maxLen at hcm; omega
    have HS := Lib.hid fun (a : Nat) (ha : a < n) (W : World) (h : Lies W A (l.map bv)) => rsame_any A n c l a W hn.symm (by omega) ha h
    have HP := Lib.hid fun (i k : Nat) (W : World) (hi : i ≤ k) (hk : k ≤ n) (h : Lies W A (l.map bv)) => piece_named (P := Tryz.prog) elemB hi hk hnc hcm hn.symm h hA
    have HLi := Lib.hid hl
    have HN := Lib.hid hn
    have HA := Lib.hid hA
    have hown0 : (w.alloc (.cells #[] 5)).ownsRow w.heap.size 5 1 (.slice (some ⟨w.heap.size, 0, none⟩) 0 0) 0 [] := World.ownsRow_made w #[] 0 (Nat.le_refl _) (by unfold maxLen; omega) (by simp)
    have hst : RPutRel5 l w (.slice (some ⟨w.heap.size, 0, none⟩) 0 0) (.int .i64 0) (w.alloc (.cells #[] 5)) := ⟨0, [], by omega, rfl, by simp, by simpa using hown0, (Below.refl _ _).alloc (Nat.le_refl _) _, by simp⟩
    clear hn hl hcm hA hown0
    go_enter Tryz.func42, Tryz.ntmps42
    go_wp2
    go_loopw [4, 5] (RPutRel5 l w) (fun _ a _ => n - (intOf a).toNat)
    case atStart => exact hst
    case round =>
      obtain ⟨a, m, han, rfl, hm, hown, hbw, hzw⟩ := hrel
      have HM := Lib.hid hm
      clear hst hm
      have ha' : a ≤ n := by have := HN.out; omega
      by_cases hlt : a < n
      · have hal : a < l.length := by have := HN.out; omega
        have hmlen : m.length ≤ 8192 := by
          have h1 := congrArg List.length HM.out
          rw [List.length_append] at h1
          have h2 := yput_len _ l (Nat.le_refl _)
          have := HN.out
          omega
        obtain ⟨S, hS⟩ : ∃ S, S = ysame (l.drop a) := ⟨_, rfl⟩
        have hS130 : S ≤ 130 := by rw [hS]; exact ysame_130 _
        have hSn : a + S ≤ n := by have := ysame_le (l.drop a); rw [List.length_drop] at this; have := HN.out; omega
        have hlw := HLi.out.below hbw
        have hSA := Lib.hid (HS.out a hlt wr hlw)
        have HSS := Lib.hid hS
        clear hS
        go_wp2_with fail
        refine hSA.out.mono ?_
        rintro e w2 ⟨rfl, q0, hw2⟩
        rw [← HSS.out]
        have hown2 := own_drewN hown q0
        rw [← hw2] at hown2
        have hb2 : Below w.heap.size w w2 := by rw [hw2]; exact below_drewN hbw _
        have hz2 : w.heap.size ≤ w2.heap.size := hb2.size
        clear hw2 hown hbw hzw hSA hlw
        by_cases h3 : 3 ≤ S
        · obtain ⟨x, hx⟩ : ∃ x : Nat, x = l[a].toNat := ⟨_, rfl⟩
          obtain ⟨ad, hAd, had, hcell⟩ := (HLi.out.below hb2).cell (k := a) (by rw [List.length_map]; exact hal)
          subst hAd
          have hcx : w2.cell? (ad.add a) = some (.int .u8 (x : Int)) := by rw [hcell, List.getElem_map, hx]; rfl
          obtain ⟨s, hs⟩ : ∃ s, s = S - 3 := ⟨_, rfl⟩
          have hsi : (S : Int) - 3 = (s : Int) := by omega
          have hs8 : s < 256 := by omega
          have hsw : IntKind.u8.wrap (s : Int) = (s : Int) := by rw [IntKind.wrap_u8]; omega
          have HX := Lib.hid hx
          have HSm := Lib.hid hs
          clear hx hs hcell
          have hL2 : Lies (w2.alloc (.cells #[.int .u8 (s : Int), .int .u8 (x : Int)] 5)) (some ⟨w2.heap.size, 0, none⟩) ([UInt8.ofNat s, l[a]].map bv) := by
            have h : Row (w2.alloc (.cells #[.int .u8 (s : Int), .int .u8 (x : Int)] 5)) w2.heap.size 5 [.int .u8 (s : Int), .int .u8 (x : Int)] := heap_alloc_new w2 _
            have he : [UInt8.ofNat s, l[a]].map bv = [.int .u8 (s : Int), .int .u8 (x : Int)] := by
              rw [HX.out]
              simp only [List.map_cons, List.map_nil, bv, UInt8.toNat_ofNat', Nat.reducePow]
              rw [Nat.mod_eq_of_lt hs8]
            rw [he]
            exact h.lies 0
          have hown3 := hown2.alloc (.cells #[.int .u8 (s : Int), .int .u8 (x : Int)] 5)
          have hb3 := hb2.alloc hz2 (.cells #[.int .u8 (s : Int), .int .u8 (x : Int)] 5)
          have hz3 := hb3.size
          clear hown2
          go_wp2_with (at_builtin; refine wpList_join elemB rfl _ _ rfl w.heap.size _ _ _ _ _ _ ([UInt8.ofNat s, l[a]].map bv) w rfl rfl (by simp) rfl hL2 (bv_one _) hown3 hb3 hz3 (by omega) (by omega) ?_)
          intro v4 w4 hown4 hb4 _ _
          have hown5 : w4.ownsRow w.heap.size 5 1 v4 (m ++ [UInt8.ofNat s, l[a]]).length ((m ++ [UInt8.ofNat s, l[a]]).map bv) := by
            rw [List.length_append, List.map_append]; exact hown4
          clear hown4 hown3 hb3 hz3 hL2 hb2 hz2
          go_wp2
          go_roundw
          case rel =>
            refine ⟨a + S, m ++ [UInt8.ofNat s, l[a]], by have := HN.out; omega, by go_num, ?_, hown5, hb4, hb4.size⟩
            rw [← HM.out, yput_run_at hal (by rw [← HSS.out]; exact h3), ← HSS.out, ← HSm.out, List.append_assoc]
          case measure => simp [intOf]; omega
        · have h3' : S < 3 := by omega
          have d0 : decide ((3 : Int) ≤ (S : Int)) = false := decide_eq_false (by omega)
          go_wp2
          go_loopw [7] (RPutRel6 l a w2) (fun e _ => n - (intOf e).toNat)
          case atStart => exact ⟨a, 0, 0, rfl, rfl, by have := HN.out; omega, by omega, rfl, rfl⟩
          case round =>
            obtain ⟨E, k, q, rfl, hEk, hE, hk128, hyl, hwi⟩ := hrel
            have HWI := Lib.hid hwi
            have HEk := Lib.hid hEk
            have HYL := Lib.hid hyl
            have hEn : E ≤ n := by have := HN.out; omega
            have hEa : (E : Int) - (a : Int) = (k : Int) := by omega
            have hEaa : a ≤ E := by omega
            clear hwi hyl hE
            obtain ⟨T, hT⟩ : ∃ T, T = ysame (l.drop E) := ⟨_, rfl⟩
            have HTT := Lib.hid hT
            have hbi3 := below_drewN hb2 q
            rw [← HWI.out] at hbi3
            have hli := HLi.out.below hbi3
            clear hEk hT
            by_cases h1 : E < n
            · have d1 : decide (E < n) = true := decide_eq_true h1
              have hEl : E < l.length := by have := HN.out; omega
              by_cases h2 : k < 128
              · have d2 : decide ((k : Int) < 128) = true := decide_eq_true (by omega)
                by_cases h5 : T < 3
                · have d3 : decide ((T : Int) < 3) = true := decide_eq_true (by omega)
                  have HST := Lib.hid (show ylist (l.drop (E + 1)) (k + 1) = ylist (l.drop a) 0 by
                    have h6 := HYL.out
                    rw [ylist_at hEl, if_pos ⟨h2, by rw [← HTT.out]; exact h5⟩] at h6
                    exact h6)
                  have hSE := HS.out E h1 wr hli
                  have HSE := Lib.hid hSE
                  clear hSE
                  go_wp2_with fail
                  refine HSE.out.mono ?_
                  rintro e wx ⟨rfl, qx, hwx⟩
                  rw [← HTT.out]
                  have HWX : Hid (wx = w2.drewN (q + qx)) := Lib.hid (by rw [hwx, HWI.out, World.drewN_drewN])
                  clear hwx
                  go_wp2
                  go_roundw
                  case rel => exact ⟨E + 1, k + 1, q + qx, by go_num, by have := HEk.out; omega, by omega, by omega, HST.out, HWX.out⟩
                  case measure => simp [intOf]; omega
                · have d3 : decide ((T : Int) < 3) = false := decide_eq_false (by omega)
                  have HK := Lib.hid (show ylist (l.drop a) 0 = k by
                    have h6 := HYL.out
                    rw [ylist_at hEl, if_neg (by rw [← HTT.out]; omega)] at h6
                    exact h6.symm)
                  have hSE := HS.out E h1 wr hli
                  have HSE := Lib.hid hSE
                  clear hSE
                  go_wp2_with fail
                  refine HSE.out.mono ?_
                  rintro e wx ⟨rfl, qx, hwx⟩
                  rw [← HTT.out]
                  have HWX : Hid (wx = w2.drewN (q + qx)) := Lib.hid (by rw [hwx, HWI.out, World.drewN_drewN])
                  clear hwx
                  have hk1 : 1 ≤ k := by
                    have h1 := ylist_pos (l := l.drop a) (by intro h; have := congrArg List.length h; rw [List.length_drop, List.length_nil] at this; omega) (by rw [← HSS.out]; exact h3')
                    rw [HK.out] at h1
                    exact h1
                  obtain ⟨cc, hcc⟩ : ∃ cc, cc = 256 - k := ⟨_, rfl⟩
                  have hc8 : cc < 256 := by omega
                  have hci : (256 : Int) - (k : Int) = (cc : Int) := by omega
                  have hcw : IntKind.u8.wrap (cc : Int) = (cc : Int) := by rw [IntKind.wrap_u8]; omega
                  have HCC := Lib.hid hcc
                  have hb3 := below_drewN hb2 (q + qx)
                  have hown3 := own_drewN hown2 (q + qx)
                  rw [← HWX.out] at hb3 hown3
                  have hz3 := hb3.size
                  clear hcc hbi3 hli
                  go_wp2_with (at_builtin; refine wpList_push elemB rfl _ _ rfl w.heap.size _ _ _ (.int .u8 (cc : Int)) wx w rfl rfl rfl rfl hown3 hb3 hz3 (by omega) (by omega) ?_)
                  intro v5 w5 hown5 hb5 _ _
                  have hown6 : w5.ownsRow w.heap.size 5 1 v5 (m.length + 1) ((m ++ [UInt8.ofNat cc]).map bv) := by
                    rw [List.map_append]
                    have : [UInt8.ofNat cc].map bv = [.int .u8 (cc : Int)] := by
                      simp only [List.map_cons, List.map_nil, bv, UInt8.toNat_ofNat', Nat.reducePow]
                      rw [Nat.mod_eq_of_lt hc8]
                    rw [this]
                    exact hown5
                  have hz5 := hb5.size
                  obtain ⟨vp, hvp, A6, c6, hv6, hA6, hc6, hm6, hl6⟩ := HP.out a E w5 (by omega) (by omega) (HLi.out.below hb5)
                  have hpl : ((l.drop a).take (E - a)).length = k := by rw [List.length_take, List.length_drop]; have := HN.out; have := HEk.out; omega
                  have hpm : (((l.drop a).take (E - a)).map bv).length = k := by rw [List.length_map]; exact hpl
                  have HPM := Lib.hid hpm
                  rw [hpl] at hv6 hA6
                  subst hv6
                  clear hpl hpm hown5 hown3 hb3 hz3
                  go_wp2_with (at_builtin; refine wpList_join elemB rfl _ _ rfl w.heap.size _ _ _ _ _ _ (((l.drop a).take (E - a)).map bv) w rfl rfl hA6 HPM.out hl6 (bv_one _) hown6 hb5 hz5 (by omega) (by omega) ?_)
                  intro v7 w7 hown7 hb7 _ _
                  have hfin : (m ++ [UInt8.ofNat cc] ++ (l.drop a).take (E - a)) ++ yput (l.drop E) = yput l := by
                    have h1 := yput_list_at hal (by rw [← HSS.out]; exact h3')
                    rw [HK.out, ← HCC.out] at h1
                    rw [← HM.out, h1, show E - a = k by have := HEk.out; omega, show E = a + k by exact HEk.out]
                    simp
                  have hown8 : w7.ownsRow w.heap.size 5 1 v7 (m ++ [UInt8.ofNat cc] ++ (l.drop a).take (E - a)).length ((m ++ [UInt8.ofNat cc] ++ (l.drop a).take (E - a)).map bv) := by
                    have e1 : (m ++ [UInt8.ofNat cc] ++ (l.drop a).take (E - a)).length = m.length + 1 + k := by
                      have := HPM.out
                      rw [List.length_map] at this
                      rw [List.length_append, List.length_append, this]; rfl
                    rw [e1]
                    simp only [List.map_append, List.map_cons, List.map_take, List.map_drop, List.append_assoc, List.cons_append, List.nil_append]
                    exact hown7
                  have HF := Lib.hid hfin
                  have hEa2 : a < E := by have := HEk.out; omega
                  clear hfin hown7 hown6 hb5 hz5 hl6 hvp
                  go_wp2
                  go_roundw
                  case rel => exact ⟨E, _, by have := HN.out; omega, rfl, HF.out, hown8, hb7, hb7.size⟩
                  case measure => simp [intOf]; omega
              · have d2 : decide ((k : Int) < 128) = false := decide_eq_false (by omega)
                have HK := Lib.hid (show ylist (l.drop a) 0 = k by
                  have h6 := HYL.out
                  rw [ylist_at hEl, if_neg (by omega)] at h6
                  exact h6.symm)
                have HWX := HWI
                have hk1 : 1 ≤ k := by
                  have h1 := ylist_pos (l := l.drop a) (by intro h; have := congrArg List.length h; rw [List.length_drop, List.length_nil] at this; omega) (by rw [← HSS.out]; exact h3')
                  rw [HK.out] at h1
                  exact h1
                obtain ⟨cc, hcc⟩ : ∃ cc, cc = 256 - k := ⟨_, rfl⟩
                have hc8 : cc < 256 := by omega
                have hci : (256 : Int) - (k : Int) = (cc : Int) := by omega
                have hcw : IntKind.u8.wrap (cc : Int) = (cc : Int) := by rw [IntKind.wrap_u8]; omega
                have HCC := Lib.hid hcc
                have hb3 := below_drewN hb2 (q)
                have hown3 := own_drewN hown2 (q)
                rw [← HWX.out] at hb3 hown3
                have hz3 := hb3.size
                clear hcc hbi3 hli
                go_wp2_with (at_builtin; refine wpList_push elemB rfl _ _ rfl w.heap.size _ _ _ (.int .u8 (cc : Int)) wr w rfl rfl rfl rfl hown3 hb3 hz3 (by omega) (by omega) ?_)
                intro v5 w5 hown5 hb5 _ _
                have hown6 : w5.ownsRow w.heap.size 5 1 v5 (m.length + 1) ((m ++ [UInt8.ofNat cc]).map bv) := by
                  rw [List.map_append]
                  have : [UInt8.ofNat cc].map bv = [.int .u8 (cc : Int)] := by
                    simp only [List.map_cons, List.map_nil, bv, UInt8.toNat_ofNat', Nat.reducePow]
                    rw [Nat.mod_eq_of_lt hc8]
                  rw [this]
                  exact hown5
                have hz5 := hb5.size
                obtain ⟨vp, hvp, A6, c6, hv6, hA6, hc6, hm6, hl6⟩ := HP.out a E w5 (by omega) (by omega) (HLi.out.below hb5)
                have hpl : ((l.drop a).take (E - a)).length = k := by rw [List.length_take, List.length_drop]; have := HN.out; have := HEk.out; omega
                have hpm : (((l.drop a).take (E - a)).map bv).length = k := by rw [List.length_map]; exact hpl
                have HPM := Lib.hid hpm
                rw [hpl] at hv6 hA6
                subst hv6
                clear hpl hpm hown5 hown3 hb3 hz3
                go_wp2_with (at_builtin; refine wpList_join elemB rfl _ _ rfl w.heap.size _ _ _ _ _ _ (((l.drop a).take (E - a)).map bv) w rfl rfl hA6 HPM.out hl6 (bv_one _) hown6 hb5 hz5 (by omega) (by omega) ?_)
                intro v7 w7 hown7 hb7 _ _
                have hfin : (m ++ [UInt8.ofNat cc] ++ (l.drop a).take (E - a)) ++ yput (l.drop E) = yput l := by
                  have h1 := yput_list_at hal (by rw [← HSS.out]; exact h3')
                  rw [HK.out, ← HCC.out] at h1
                  rw [← HM.out, h1, show E - a = k by have := HEk.out; omega, show E = a + k by exact HEk.out]
                  simp
                have hown8 : w7.ownsRow w.heap.size 5 1 v7 (m ++ [UInt8.ofNat cc] ++ (l.drop a).take (E - a)).length ((m ++ [UInt8.ofNat cc] ++ (l.drop a).take (E - a)).map bv) := by
                  have e1 : (m ++ [UInt8.ofNat cc] ++ (l.drop a).take (E - a)).length = m.length + 1 + k := by
                    have := HPM.out
                    rw [List.length_map] at this
                    rw [List.length_append, List.length_append, this]; rfl
                  rw [e1]
                  simp only [List.map_append, List.map_cons, List.map_take, List.map_drop, List.append_assoc, List.cons_append, List.nil_append]
                  exact hown7
                have HF := Lib.hid hfin
                have hEa2 : a < E := by have := HEk.out; omega
                clear hfin hown7 hown6 hb5 hz5 hl6 hvp
                go_wp2
                go_roundw
                case rel => exact ⟨E, _, by have := HN.out; omega, rfl, HF.out, hown8, hb7, hb7.size⟩
                case measure => simp [intOf]; omega
            · have d1 : decide (E < n) = false := decide_eq_false h1
              have HK := Lib.hid (show ylist (l.drop a) 0 = k by
                have h6 := HYL.out
                rw [List.drop_of_length_le (by have := HN.out; omega)] at h6
                exact h6.symm)
              have HWX := HWI
              have hk1 : 1 ≤ k := by
                have h1 := ylist_pos (l := l.drop a) (by intro h; have := congrArg List.length h; rw [List.length_drop, List.length_nil] at this; omega) (by rw [← HSS.out]; exact h3')
                rw [HK.out] at h1
                exact h1
              obtain ⟨cc, hcc⟩ : ∃ cc, cc = 256 - k := ⟨_, rfl⟩
              have hc8 : cc < 256 := by omega
              have hci : (256 : Int) - (k : Int) = (cc : Int) := by omega
              have hcw : IntKind.u8.wrap (cc : Int) = (cc : Int) := by rw [IntKind.wrap_u8]; omega
              have HCC := Lib.hid hcc
              have hb3 := below_drewN hb2 (q)
              have hown3 := own_drewN hown2 (q)
              rw [← HWX.out] at hb3 hown3
              have hz3 := hb3.size
              clear hcc hbi3 hli
              go_wp2_with (at_builtin; refine wpList_push elemB rfl _ _ rfl w.heap.size _ _ _ (.int .u8 (cc : Int)) wr w rfl rfl rfl rfl hown3 hb3 hz3 (by omega) (by omega) ?_)
              intro v5 w5 hown5 hb5 _ _
              have hown6 : w5.ownsRow w.heap.size 5 1 v5 (m.length + 1) ((m ++ [UInt8.ofNat cc]).map bv) := by
                rw [List.map_append]
                have : [UInt8.ofNat cc].map bv = [.int .u8 (cc : Int)] := by
                  simp only [List.map_cons, List.map_nil, bv, UInt8.toNat_ofNat', Nat.reducePow]
                  rw [Nat.mod_eq_of_lt hc8]
                rw [this]
                exact hown5
              have hz5 := hb5.size
              obtain ⟨vp, hvp, A6, c6, hv6, hA6, hc6, hm6, hl6⟩ := HP.out a E w5 (by omega) (by omega) (HLi.out.below hb5)
              have hpl : ((l.drop a).take (E - a)).length = k := by rw [List.length_take, List.length_drop]; have := HN.out; have := HEk.out; omega
              have hpm : (((l.drop a).take (E - a)).map bv).length = k := by rw [List.length_map]; exact hpl
              have HPM := Lib.hid hpm
              rw [hpl] at hv6 hA6
              subst hv6
              clear hpl hpm hown5 hown3 hb3 hz3
              go_wp2_with (at_builtin; refine wpList_join elemB rfl _ _ rfl w.heap.size _ _ _ _ _ _ (((l.drop a).take (E - a)).map bv) w rfl rfl hA6 HPM.out hl6 (bv_one _) hown6 hb5 hz5 (by omega) (by omega) ?_)
              intro v7 w7 hown7 hb7 _ _
              have hfin : (m ++ [UInt8.ofNat cc] ++ (l.drop a).take (E - a)) ++ yput (l.drop E) = yput l := by
                have h1 := yput_list_at hal (by rw [← HSS.out]; exact h3')
                rw [HK.out, ← HCC.out] at h1
                rw [← HM.out, h1, show E - a = k by have := HEk.out; omega, show E = a + k by exact HEk.out]
                simp
              have hown8 : w7.ownsRow w.heap.size 5 1 v7 (m ++ [UInt8.ofNat cc] ++ (l.drop a).take (E - a)).length ((m ++ [UInt8.ofNat cc] ++ (l.drop a).take (E - a)).map bv) := by
                have e1 : (m ++ [UInt8.ofNat cc] ++ (l.drop a).take (E - a)).length = m.length + 1 + k := by
                  have := HPM.out
                  rw [List.length_map] at this
                  rw [List.length_append, List.length_append, this]; rfl
                rw [e1]
                simp only [List.map_append, List.map_cons, List.map_take, List.map_drop, List.append_assoc, List.cons_append, List.nil_append]
                exact hown7
              have HF := Lib.hid hfin
              have hEa2 : a < E := by have := HEk.out; omega
              clear hfin hown7 hown6 hb5 hz5 hl6 hvp
              go_wp2
              go_roundw
              case rel => exact ⟨E, _, by have := HN.out; omega, rfl, HF.out, hown8, hb7, hb7.size⟩
              case measure => simp [intOf]; omega
      · obtain rfl : a = n := by omega
        go_wp2
        go_ret2
        rw [hE.out]
        have h1 := HM.out
        rw [List.drop_of_length_le (by have := HN.out; omega), yput_nil, List.append_nil] at h1
        subst h1
        exact ⟨_, rfl, isB_own hown, hbw⟩
  · have hE : Hid (yputE l = ([], 3)) := Lib.hid (by unfold yputE; rw [if_neg (by omega)])
    have hbi : (4096 : Int) < (n : Int) := by omega
    clear hn hl hcm hA hnc
    go_enter Tryz.func42, Tryz.ntmps42
    go_wp2
    go_ret2
    rw [hE.out]
    exact RetE.nil _ (Below.refl _ _)
end Go.Proofs.YtlibofmpnlfelaaGreatDoor

/- The contract of layer 5's reference's Take. -/



namespace Go.Proofs.YtlibofmpnlfelaaGreatDoor

open Go.RowKit

/-- Two rows of bytes and an error that a call answers. -/
def RetBB (w : World) (p : List UInt8 × List UInt8 × Int) (e : Ending) (w' : World) : Prop :=
  ∃ u v, e = .returned (.tuple #[u, v, .int .i64 p.2.2]) ∧ IsB p.1 u w' ∧ IsB p.2.1 v w' ∧ Below w.heap.size w w'
theorem RetBB.nil {w w' : World} (n : Int) (hb : Below w.heap.size w w') : RetBB w ([], [], n) (.returned (.tuple #[.slice none 0 0, .slice none 0 0, .int .i64 n])) w' := ⟨_, _, rfl, isB_nil _, isB_nil _, hb⟩
/-- Some parts are taken: what is still to come. -/
def YLeft (l : List UInt8) (M a : Nat) (m : List UInt8) : Prop :=
  (m.length ≤ M ∧ ytake M l = (ytake (M - m.length) (l.drop a)).map fun p => (m ++ p.1, p.2)) ∨ (M < m.length ∧ ytake M l = none)
theorem YLeft.run {l m : List UInt8} {M a c : Nat} (h : YLeft l M a m) (hm : m.length < M) (ha : a + 1 < l.length) (hc : c = l[a].toNat) (h128 : c < 128) : YLeft l M (a + 2) (m ++ List.replicate (c + 3) l[a + 1]) := by
  rcases h with ⟨_, h⟩ | ⟨h, _⟩
  · rw [drop_at (show a < l.length by omega), drop_at ha, ytake_run (by omega) (by omega), ← hc] at h
    by_cases hM : M - m.length < c + 3
    · rw [if_pos hM] at h
      exact .inr ⟨by rw [List.length_append, List.length_replicate]; omega, h⟩
    · rw [if_neg hM] at h
      refine .inl ⟨by rw [List.length_append, List.length_replicate]; omega, ?_⟩
      rw [h, Option.map_map, List.length_append, List.length_replicate, show M - (m.length + (c + 3)) = M - m.length - (c + 3) by omega]
      congr 1
      funext p
      simp
  · omega
theorem YLeft.done {l m : List UInt8} {a : Nat} (h : YLeft l m.length a m) : ytake m.length l = some (m, l.drop a) := by
  rcases h with ⟨_, h⟩ | ⟨h, _⟩
  · rw [h, Nat.sub_self, ytake_zero]; simp
  · omega
end Go.Proofs.YtlibofmpnlfelaaGreatDoor

/- Contracts of byterle's small functions: repeats, first, standing, and a part's head and size. -/





namespace Go.Proofs.YtlibofmpnlfelaaGreatDoor

open Go.RowKit

theorem ysame_step0 {l : List UInt8} {k : Nat} (ha : 0 < l.length) (hk : 1 ≤ k) (h : k ≤ ysame l) :
    (k = l.length → ysame l = k) ∧ (k = 130 → ysame l = k) ∧ (∀ h' : k < l.length, k < 130 → (l[k] = l[0] → k + 1 ≤ ysame l) ∧ (l[k] ≠ l[0] → ysame l = k)) := by
  have := ysame_step (l := l) (a := 0) ha hk (by simpa using h)
  simpa using this

def RepRel (l : List UInt8) (w : World) (v : Value) (wr : World) : Prop := ∃ k q : Nat, v = .int .i64 (k : Int) ∧ 1 ≤ k ∧ k ≤ ysame l ∧ wr = w.drewN q
def RepPost (l : List UInt8) (w : World) (e : Ending) (w' : World) : Prop := e = .returned (.int .i64 (ysame l : Int)) ∧ ∃ q, w' = w.drewN q
set_option maxHeartbeats 1000000 in
set_option maxRecDepth 100000 in
theorem repeats_any (A : Option Addr) (n c : Nat) (l : List UInt8) (w : World) (hn : l.length = n) (hb : n ≤ 1000000) (h0 : 0 < n) (hl : Lies w A (l.map bv)) :
    Calls Tryz.prog 131 #[.slice A n c] w (RepPost l w) := by
  have hal : 0 < l.length := by omega
  obtain ⟨ad, rfl, _, hcell⟩ := hl.cell (k := 0) (by rw [List.length_map]; exact hal)
  have HL := Lib.hid hl
  obtain ⟨x, hx⟩ : ∃ x : Nat, x = l[0].toNat := ⟨_, rfl⟩
  have hcx : ∀ q, (w.drewN q).cell? ad = some (.int .u8 (x : Int)) := fun q => by
    have e : ad.add 0 = ad := by simp [Addr.add]
    rw [e] at hcell
    show w.cell? _ = _
    rw [hcell, List.getElem_map, hx]; rfl
  have HC := Lib.hid hcx
  have HX := Lib.hid hx
  have HN := Lib.hid hn
  have hpos : 1 ≤ ysame l := ysame_pos (by intro h; rw [h] at hal; simp at hal)
  have hsl := ysame_le l
  rw [hn] at hsl
  have hs130 := ysame_130 l
  obtain ⟨m, hm⟩ : ∃ m, m = min n 130 := ⟨_, rfl⟩
  have hmin : ∀ (ts : Array TypeId) (t : TypeId) (W : World), (Builtin.min_ ts t #[.int .i64 (n : Int), .int .i64 130]).run Tryz.prog W = .ok (.int .i64 (m : Int)) W := fun ts t W => by
    rw [run_min_int2]
    congr 2
    split <;> omega
  have HM := Lib.hid hm
  clear hn hl hcell hx hcx hm
  go_enter Tryz.func131, Tryz.ntmps131
  go_wp2
  go_loopw [3] (RepRel l w) (fun v _ => 131 - (intOf v).toNat)
  case atStart => exact ⟨1, 0, rfl, Nat.le_refl _, hpos, rfl⟩
  case round =>
    obtain ⟨k, q0, rfl, hk1, hk, hw⟩ := hrel
    have HW := Lib.hid hw
    clear hw
    have hst := ysame_step0 (l := l) (k := k) hal hk1 hk
    have HST := Lib.hid hst
    have hcx : wr.cell? ad = some (.int .u8 (x : Int)) := by rw [HW.out]; exact HC.out q0
    clear hst hpos
    by_cases h1 : k < m
    · have d1 : decide (k < m) = true := decide_eq_true h1
      have h1n : (k : Int) < (n : Int) := by have := HM.out; omega
      have h0n : (0 : Int) < (n : Int) := by omega
      have h130 : k < 130 := by have := HM.out; omega
      have hkl : k < l.length := by have := HN.out; have := HM.out; omega
      obtain ⟨_, had, _, hcell⟩ := HL.out.cell (k := k) (by rw [List.length_map]; exact hkl)
      injection had with had
      subst had
      obtain ⟨y, hy⟩ : ∃ y : Nat, y = l[k].toNat := ⟨_, rfl⟩
      have hcy : wr.cell? (ad.add k) = some (.int .u8 (y : Int)) := by
        rw [HW.out]
        show w.cell? _ = _
        rw [hcell, List.getElem_map, hy]; rfl
      have HY := Lib.hid hy
      clear hy hcell
      by_cases hxy : y = x
      · subst hxy
        have d3 : ((y : Int) == (y : Int)) = true := by simp
        have hnext : k + 1 ≤ ysame l := by
          have h3 := (HST.out.2.2 hkl h130).1
          refine h3 (UInt8.toNat_inj.1 ?_)
          rw [← HX.out, ← HY.out]
        go_wp2
        go_quiet (fail)
        go_wp2
        go_roundw
        case rel => exact ⟨k + 1, _, by go_num, by omega, hnext, by rw [HW.out]; exact World.drewN_drewN _ _ _⟩
        case measure => simp [intOf]; omega
      · have d3 : ((y : Int) == (x : Int)) = false := by simpa using (fun h => hxy (by omega))
        have hend : ysame l = k := by
          have h3 := (HST.out.2.2 hkl h130).2
          refine h3 fun h => hxy ?_
          rw [HX.out, HY.out, h]
        have HE := Lib.hid hend
        clear hend
        go_wp2
        go_quiet (fail)
        go_wp2
        go_ret
        exact ⟨ret_int (by rw [HE.out]), _, by rw [HW.out]; exact World.drewN_drewN _ _ _⟩
    · have d1 : decide (k < m) = false := decide_eq_false h1
      have HE : Hid (ysame l = k) := Lib.hid (by
        have := HM.out
        have := HN.out
        by_cases h2 : k = 130
        · exact HST.out.2.1 h2
        · exact HST.out.1 (by omega))
      go_wp2
      go_quiet (fail)
      go_wp2
      go_ret
      exact ⟨ret_int (by rw [HE.out]), _, by rw [HW.out]; exact World.drewN_drewN _ _ _⟩

/-- A part's first byte. -/
def phead (n t : Nat) : Nat := if 3 ≤ t then t - 3 else 256 - n
set_option maxHeartbeats 1000000 in
set_option maxRecDepth 100000 in
theorem head_any (A : Option Addr) (n c t : Nat) (w : World) (hn : 1 ≤ n) (hn2 : n ≤ 256) (ht : t ≤ 200) :
    Calls Tryz.prog 87 #[.agg #[.slice A n c, .int .i64 (t : Int)]] w (fun e w' => e = .returned (.int .u8 (phead n t : Int)) ∧ Below w.heap.size w w') := by
  by_cases h3 : 3 ≤ t
  · obtain ⟨s, hs⟩ : ∃ s, s = t - 3 := ⟨_, rfl⟩
    have hp : phead n t = s := by unfold phead; rw [if_pos h3]; omega
    have hsw : (t : Int) - 3 = (s : Int) := by omega
    have hsu : IntKind.u8.wrap (s : Int) = (s : Int) := by rw [IntKind.wrap_u8]; omega
    have HP := Lib.hid hp
    clear hp hs
    go_enter Tryz.func87, Tryz.ntmps87
    go_wp2
    go_ret
    exact ⟨ret_int (by rw [HP.out]), (Below.refl _ _).alloc (Nat.le_refl _) _⟩
  · obtain ⟨s, hs⟩ : ∃ s, s = 256 - n := ⟨_, rfl⟩
    have hp : phead n t = s := by unfold phead; rw [if_neg h3]; omega
    have hsw : 256 - (n : Int) = (s : Int) := by omega
    have hsu : IntKind.u8.wrap (s : Int) = (s : Int) := by rw [IntKind.wrap_u8]; omega
    have d0 : decide ((3 : Int) ≤ (t : Int)) = false := decide_eq_false (by omega)
    have HP := Lib.hid hp
    clear hp hs
    go_enter Tryz.func87, Tryz.ntmps87
    go_wp2
    go_ret
    exact ⟨ret_int (by rw [HP.out]), (Below.refl _ _).alloc (Nat.le_refl _) _⟩
/-- The part that bytes begin with when they are laid down: how many bytes, how often. -/
def plen (l : List UInt8) : Nat := if 3 ≤ ysame l then 1 else ylist l 0
def ptimes (l : List UInt8) : Nat := if 3 ≤ ysame l then ysame l else 1
/-- The function's own result, in a block of its own, below which nothing turns. -/
def FirstPost (A : Option Addr) (l : List UInt8) (c : Nat) (w : World) (e : Ending) (w' : World) : Prop :=
  e = .returned (.agg #[.slice A (plen l) c, .int .i64 (ptimes l : Int)]) ∧ Below w.heap.size w w'
def FirstRel (l : List UInt8) (w0 : World) (v : Value) (wr : World) : Prop := ∃ k : Nat, v = .int .i64 (k : Int) ∧ 1 ≤ k ∧ k ≤ 128 ∧ k ≤ l.length ∧ ylist (l.drop k) k = ylist l 0 ∧ ∃ q, wr = w0.drewN q
theorem ylist_end {l : List UInt8} {k : Nat} (h : k = l.length) : ylist (l.drop k) k = k := by
  subst h
  rw [List.drop_length, ylist]
set_option maxHeartbeats 4000000 in
set_option maxRecDepth 100000 in
theorem first_any (A : Option Addr) (n c : Nat) (l : List UInt8) (w : World) (hn : l.length = n) (hb : n ≤ 1000000) (h0 : 0 < n) (hnc : n ≤ c) (hcm : c ≤ maxLen) (hl : Lies w A (l.map bv)) :
    Calls Tryz.prog 115 #[.slice A n c] w (FirstPost A l c w) := by
  have hci : (c : Int) ≤ 9223372036854775807 := by unfold maxLen at hcm; omega
  have hal : 0 < l.length := by omega
  obtain ⟨ad, hAd, _, _⟩ := hl.cell (k := 0) (by rw [List.length_map]; exact hal)
  have HR := Lib.hid fun (W : World) (h : Lies W A (l.map bv)) => repeats_any A n c l W hn hb h0 h
  have HD := Lib.hid fun (k : Nat) (W : World) (hk : k < n) (h : Lies W (A.map (·.add k)) ((l.drop k).map bv)) => repeats_any (A.map (·.add k)) (n - k) (c - k) (l.drop k) W (by rw [List.length_drop]; omega) (by omega) (by omega) h
  have HP := Lib.hid fun (k : Nat) (W : World) (hk : k < n) (h : Lies W A (l.map bv)) => (show Lies W (A.map (·.add k)) ((l.drop k).map bv) by
    have := h.drop (k := k) (cap := c) (by rw [List.length_map]; omega)
    rw [if_neg (by omega)] at this
    rw [List.map_drop]; exact this)
  have HN := Lib.hid hn
  have HL := Lib.hid hl
  obtain ⟨s, hs⟩ : ∃ s, s = ysame l := ⟨_, rfl⟩
  have HS := Lib.hid hs
  have hb1 : Below w.heap.size w (w.alloc (.cells #[.slice none 0 0, .int .i64 0] 110)) := (Below.refl _ _).alloc (Nat.le_refl _) _
  have hl1 := hl.below hb1
  have HB1 := Lib.hid hb1
  have hcall := HR.out _ hl1
  have HCL := Lib.hid hcall
  have HL1 := Lib.hid hl1
  clear hn hl hs hb1 hl1 hcall hAd
  go_enter Tryz.func115, Tryz.ntmps115
  go_wp2_with fail
  refine HCL.out.mono ?_
  rintro e w1 ⟨rfl, q1, hw1⟩
  rw [← HS.out]
  have hr1 : Row w1 w.heap.size 110 [.slice none 0 0, .int .i64 0] := by rw [hw1]; exact heap_alloc_new w _
  have hl2 : Lies w1 A (l.map bv) := by rw [hw1]; exact HL1.out
  have hb2 : Below w.heap.size w w1 := by rw [hw1]; exact below_drewN HB1.out _
  clear hw1
  by_cases h3 : 3 ≤ s
  · have HB2 := Lib.hid hb2
    have HL2 := Lib.hid hl2
    have hc0 := hr1.cell 0
    have hc1 := hr1.cell 1
    have hf0 := hr1.free 0
    have hf1 := hr1.free 1
    simp only [List.getElem?_cons_zero, List.getElem?_cons_succ] at hc0 hc1
    have HR1 := Lib.hid hr1
    clear hb2 hl2 hr1
    have HE := Lib.hid (show plen l = 1 ∧ ptimes l = s by unfold plen ptimes; rw [← HS.out, if_pos h3, if_pos h3]; exact ⟨rfl, rfl⟩)
    go_wp2
    have hr2 : Row ((w1.setCell ⟨w.heap.size, 0, none⟩ (.slice A 1 c)).setCell ⟨w.heap.size, 1, none⟩ (.int .i64 (s : Int))) w.heap.size 110 [.slice A 1 c, .int .i64 (s : Int)] := (HR1.out.set_ 0 _).set_ 1 _
    refine bodyPost_ret (results_cell_row rfl _ _ _ _ _ _ _ rfl hr2 Tryz.underlying110 rfl (by kernel_rfl)) rfl ⟨?_, (HB2.out.setCell (Nat.le_refl _) _).setCell (Nat.le_refl _) _⟩
    rw [HE.out.1, HE.out.2]
  · have d0 : decide ((3 : Int) ≤ (s : Int)) = false := decide_eq_false (by omega)
    obtain ⟨m, hm⟩ : ∃ m, m = min n 128 := ⟨_, rfl⟩
    have hmin : ∀ (ts : Array TypeId) (t : TypeId) (W : World), (Builtin.min_ ts t #[.int .i64 (n : Int), .int .i64 128]).run Tryz.prog W = .ok (.int .i64 (m : Int)) W := fun ts t W => by
      rw [run_min_int2]
      congr 2
      split <;> omega
    have hmn : m ≤ n := by omega
    have HM := Lib.hid hm
    have hr1' : FirstRel l w1 (.int .i64 1) w1 := by
      refine ⟨1, rfl, Nat.le_refl _, by omega, by omega, ?_, 0, rfl⟩
      cases l with
      | nil => simp at hal
      | cons x l => rw [ylist, if_pos ⟨by omega, by have := HS.out; omega⟩]; rfl
    have HB2 := Lib.hid hb2
    have HL2 := Lib.hid hl2
    have HR1 := Lib.hid hr1
    have HE := Lib.hid (show plen l = ylist l 0 ∧ ptimes l = 1 by unfold plen ptimes; rw [← HS.out, if_neg h3, if_neg h3]; exact ⟨rfl, rfl⟩)
    clear hb2 hl2 hr1 hm
    go_wp2
    go_loopw [4] (FirstRel l w1) (fun v _ => 129 - (intOf v).toNat)
    case atStart => exact hr1'
    case round =>
      obtain ⟨k, rfl, hk1, hk128, hkl, hyl, q, hw⟩ := hrel
      have HY := Lib.hid hyl
      have hlr : Lies wr A (l.map bv) := by rw [hw]; exact HL2.out
      have HW := Lib.hid hw
      clear hyl hr1' hw
      by_cases h1 : k < m
      · have d1 : decide (k < m) = true := decide_eq_true h1
        have h1n : k < n := by omega
        have h1i : (k : Int) ≤ (n : Int) := by omega
        have h1c : (k : Int) ≤ (c : Int) := by omega
        have hkc : ¬ c = k := by omega
        have hcall := HD.out k wr h1n (HP.out k wr h1n hlr)
        obtain ⟨T, hT⟩ : ∃ T, T = ysame (l.drop k) := ⟨_, rfl⟩
        have HT := Lib.hid hT
        have HC := Lib.hid hcall
        clear hlr hcall hT
        by_cases h5 : T < 3
        · have d3 : decide ((T : Int) < 3) = true := decide_eq_true (by omega)
          have HS2 := Lib.hid (show ylist (l.drop (k + 1)) (k + 1) = ylist l 0 by
            have h6 := HY.out
            rw [ylist_at (by have := HN.out; omega), if_pos ⟨by have := HM.out; omega, by rw [← HT.out]; exact h5⟩] at h6
            exact h6)
          go_wp2_with fail
          refine HC.out.mono ?_
          rintro e w2 ⟨rfl, q2, hw2⟩
          rw [← HT.out]
          have HW2 := Lib.hid hw2
          clear hw2
          go_wp2
          go_roundw
          case rel => exact ⟨k + 1, by go_num, by omega, by have := HM.out; omega, by have := HN.out; omega, HS2.out, q + q2, by rw [HW2.out, HW.out]; exact World.drewN_drewN _ _ _⟩
          case measure => simp [intOf]; omega
        · have d3 : decide ((T : Int) < 3) = false := decide_eq_false (by omega)
          have HS2 := Lib.hid (show plen l = k by
            have h6 := HY.out
            rw [ylist_at (by have := HN.out; omega), if_neg (by rw [← HT.out]; omega)] at h6
            rw [HE.out.1, ← h6])
          go_wp2_with fail
          refine HC.out.mono ?_
          rintro e w2 ⟨rfl, q2, hw2⟩
          rw [← HT.out]
          have hr2 : Row w2 w.heap.size 110 [.slice none 0 0, .int .i64 0] := by rw [hw2, HW.out]; exact HR1.out
          have hc0 := hr2.cell 0
          have hc1 := hr2.cell 1
          have hf0 := hr2.free 0
          have hf1 := hr2.free 1
          simp only [List.getElem?_cons_zero, List.getElem?_cons_succ] at hc0 hc1
          have HR2 := Lib.hid hr2
          have HB3 := Lib.hid (show Below w.heap.size w w2 by rw [hw2, HW.out]; exact below_drewN (below_drewN HB2.out _) _)
          clear hw2 hr2
          go_wp2
          have hr4 : Row ((w2.setCell ⟨w.heap.size, 0, none⟩ (.slice A k c)).setCell ⟨w.heap.size, 1, none⟩ (.int .i64 1)) w.heap.size 110 [.slice A k c, .int .i64 1] := (HR2.out.set_ 0 _).set_ 1 _
          refine bodyPost_ret (results_cell_row rfl _ _ _ _ _ _ _ rfl hr4 Tryz.underlying110 rfl (by kernel_rfl)) rfl ⟨?_, (HB3.out.setCell (Nat.le_refl _) _).setCell (Nat.le_refl _) _⟩
          rw [HS2.out, HE.out.2]; rfl
      · have d1 : decide (k < m) = false := decide_eq_false h1
        have HS2 := Lib.hid (show plen l = k by
          have h6 := HY.out
          rw [HE.out.1, ← h6]
          have := HM.out
          have := HN.out
          by_cases h7 : k = l.length
          · exact ylist_end h7
          · rw [ylist_at (by omega), if_neg (by omega)])
        have hr2 : Row wr w.heap.size 110 [.slice none 0 0, .int .i64 0] := by rw [HW.out]; exact HR1.out
        have hc0 := hr2.cell 0
        have hc1 := hr2.cell 1
        have hf0 := hr2.free 0
        have hf1 := hr2.free 1
        simp only [List.getElem?_cons_zero, List.getElem?_cons_succ] at hc0 hc1
        have HR2 := Lib.hid hr2
        have HB3 := Lib.hid (show Below w.heap.size w wr by rw [HW.out]; exact below_drewN HB2.out _)
        have hkc2 : (k : Int) ≤ (c : Int) := by have := HN.out; omega
        clear hlr hr2
        go_wp2
        have hr4 : Row ((wr.setCell ⟨w.heap.size, 0, none⟩ (.slice A k c)).setCell ⟨w.heap.size, 1, none⟩ (.int .i64 1)) w.heap.size 110 [.slice A k c, .int .i64 1] := (HR2.out.set_ 0 _).set_ 1 _
        refine bodyPost_ret (results_cell_row rfl _ _ _ _ _ _ _ rfl hr4 Tryz.underlying110 rfl (by kernel_rfl)) rfl ⟨?_, (HB3.out.setCell (Nat.le_refl _) _).setCell (Nat.le_refl _) _⟩
        rw [HS2.out, HE.out.2]; rfl

/-- The part that stands at the front: how many bytes behind the head, how often. -/
def slen (x : UInt8) : Nat := if x.toNat < 128 then 1 else 256 - x.toNat
def stimes (x : UInt8) : Nat := if x.toNat < 128 then x.toNat + 3 else 1
end Go.Proofs.YtlibofmpnlfelaaGreatDoor

/- What byterle's two iterators give: the parts that bytes are laid down as; the parts that stand in bytes. -/





namespace Go.Proofs.YtlibofmpnlfelaaGreatDoor

open Go.RowKit Go.Shelf

attribute [local go_sem] Oper.semAt_some

theorem plen_pos {l : List UInt8} (h : l ≠ []) : 1 ≤ plen l := by
  unfold plen
  split
  · omega
  · exact ylist_pos h (by omega)
theorem ptimes_pos (l : List UInt8) : 1 ≤ ptimes l := by unfold ptimes; split <;> omega
theorem plen_128 (l : List UInt8) : plen l ≤ 128 := by
  unfold plen
  split
  · omega
  · exact ylist_128 l 0 (by omega)
theorem ptimes_130 (l : List UInt8) : ptimes l ≤ 130 := by
  have := ysame_130 l
  unfold ptimes
  split <;> omega
theorem plen_ptimes (l : List UInt8) : plen l * ptimes l ≤ 130 ∧ plen l * ptimes l ≤ l.length ∧ plen l ≤ l.length := by
  have h1 := ysame_130 l
  have h2 := ysame_le l
  have h3 := ylist_128 l 0 (by omega)
  have h4 := ylist_le l 0
  unfold plen ptimes
  split <;> omega
/-- By how much the place goes on behind the part at a. -/
def padv (l : List UInt8) (a : Nat) : Nat := plen (l.drop a) * ptimes (l.drop a)
theorem padv_pos {l : List UInt8} {a : Nat} (h : a < l.length) : 1 ≤ padv l a :=
  Nat.mul_pos (plen_pos (by intro e; have := congrArg List.length e; rw [List.length_drop, List.length_nil] at this; omega)) (ptimes_pos _)
theorem padv_le {l : List UInt8} {a : Nat} (h : a < l.length) : a + padv l a ≤ l.length := by
  have := (plen_ptimes (l.drop a)).2.1
  rw [List.length_drop] at this
  unfold padv
  omega
/-- A part as the program has it. -/
def partV (A : Option Addr) (c : Nat) (l : List UInt8) (a : Nat) : Value := .agg #[.slice (A.map (·.add a)) (plen (l.drop a)) (c - a), .int .i64 (ptimes (l.drop a) : Int)]

def SplitRel (l : List UInt8) (A : Option Addr) (n c Bs : Nat) (w00 : World) (J : List {a : Nat // a < n} → World → Prop) (v : Value) (wr : World) : Prop :=
  ∃ (pre : List {a : Nat // a < n}) (a : Nat), v = .int .i64 (a : Int) ∧ a ≤ n ∧ Chain (·.1) (fun x => padv l x.1) pre a ∧ J pre wr ∧ Row wr Bs 25 [.slice A n c] ∧ Below w00.heap.size w00 wr
set_option maxHeartbeats 4000000 in
set_option maxRecDepth 100000 in
theorem split_stops (l : List UInt8) (A : Option Addr) (n c Bs : Nat) (w00 w : World) (hn : l.length = n) (hb : n ≤ 1000000) (hnc : n ≤ c) (hcm : c ≤ maxLen) (hl : Lies w00 A (l.map bv))
    (hbw : Below w00.heap.size w00 w) (hBs : Row w Bs 25 [.slice A n c]) (m : Nat) (hm : 1 ≤ m) :
    SeqStopsK Fence.wide m Tryz.prog 114 #[.pointer (some ⟨Bs, 0, none⟩)] (fun x : {a : Nat // a < n} => #[partV A c l x.1]) (Kps Bs 110 w00.heap.size)
      (fun xs => Chain (·.1) (fun x => padv l x.1) xs n) (fun _ => True) n w := fun q J Jx W hW hJ hJx hY h0 => by
  have hci : (c : Int) ≤ 9223372036854775807 := by unfold maxLen at hcm; omega
  have hst : SplitRel l A n c Bs w00 J (.int .i64 0) W := ⟨[], 0, rfl, by omega, .nil, h0, hBs.below hW hBs.lt, hbw.trans (hW.mono hbw.size)⟩
  have HF := Lib.hid fun (k : Nat) (X : World) (hk : k < n) (h : Below w00.heap.size w00 X) => (show Calls Tryz.prog 115 #[.slice (A.map (·.add k)) (n - k) (c - k)] X (FirstPost (A.map (·.add k)) (l.drop k) (c - k) X) by
    refine first_any (A.map (·.add k)) (n - k) (c - k) (l.drop k) X (by rw [List.length_drop]; omega) (by omega) (by omega) (by omega) (by omega) ?_
    have := (hl.below h).drop (k := k) (cap := c) (by rw [List.length_map]; omega)
    rw [if_neg (by omega)] at this
    rw [List.map_drop]; exact this)
  have HY := Lib.hid hY
  have HJ := Lib.hid hJ
  have HN := Lib.hid hn
  have hzz : W.heap.size ≤ W.heap.size := Nat.le_refl _
  clear hbw hBs hW hJx hY h0 hl hn hJ
  refine callsIn_of_wp Tryz.func114 rfl trivial ?_ rfl
  simp only [Tryz.ntmps114, List.size_toArray, List.length_cons, List.length_nil, Nat.reduceAdd, Nat.reduceSub, Array.replicate_succ, Array.replicate_zero, List.push_toArray, List.append_toArray, List.nil_append, List.cons_append]
  gi_wp2
  gi_loopw [3] (SplitRel l A n c Bs w00 J) (fun v _ => n - (intOf v).toNat)
  case atStart => exact hst
  case round =>
    obtain ⟨pre, a, rfl, han, hch, hj, hbs, hbw⟩ := hrel
    have hcb := hbs.cell 0
    simp only [List.getElem?_cons_zero] at hcb
    have HCH := Lib.hid hch
    have HBS := Lib.hid hbs
    have HBW := Lib.hid hbw
    have HJP := Lib.hid hj
    clear hch hbs hbw hj hst
    by_cases hlt : a < n
    · have hlti : (a : Int) < (n : Int) := by omega
      have hac : (a : Int) ≤ (c : Int) := by omega
      have hkc : ¬ c = a := by omega
      have hcall := HF.out a wr hlt HBW.out
      have HC := Lib.hid hcall
      clear hcall
      gi_wp2_with fail
      refine ⟨trivial, (callsIn_wide.2 HC.out).mono ?_⟩
      rintro e w1 ⟨rfl, hb1⟩
      obtain ⟨k, hk⟩ : ∃ k, k = plen (l.drop a) := ⟨_, rfl⟩
      obtain ⟨t, ht⟩ : ∃ t, t = ptimes (l.drop a) := ⟨_, rfl⟩
      rw [← hk, ← ht]
      have hz1 : wr.heap.size ≤ w1.heap.size := hb1.size
      obtain ⟨g, hg⟩ : ∃ g, g = w1.heap.size := ⟨_, rfl⟩
      have hr2 : Row (w1.alloc (.cells #[.slice (A.map (·.add a)) k (c - a), .int .i64 (t : Int)] 110)) g 110 [.slice (A.map (·.add a)) k (c - a), .int .i64 (t : Int)] := by rw [hg]; exact heap_alloc_new w1 _
      have hb2 : Below wr.heap.size wr (w1.alloc (.cells #[.slice (A.map (·.add a)) k (c - a), .int .i64 (t : Int)] 110)) := hb1.alloc hz1 _
      have hj2 := HJ.out pre wr _ none HJP.out (below_grown hb2) (fun r e => by cases e)
      have hlen := HCH.out.length (fun x : {a : Nat // a < n} => padv_pos (l := l) (a := x.1) (by have := x.2; have := HN.out; omega))
      obtain ⟨fn, tmps, assign, body, hy, hR⟩ := HY.out pre ⟨a, hlt⟩ _ hj2 (by omega)
      unfold partV at hy
      dsimp only at hy
      rw [← hk, ← ht] at hy
      have hc0 := hr2.cell 0
      have hc1 := hr2.cell 1
      simp only [List.getElem?_cons_zero, List.getElem?_cons_succ] at hc0 hc1
      rw [hg] at hc0 hc1
      have HR := Lib.hid hR
      have HR2 := Lib.hid hr2
      have HB2 := Lib.hid hb2
      have HK := Lib.hid hk
      have HT := Lib.hid ht
      have HG := Lib.hid hg
      clear hk ht hr2 hb2 hj2 hlen hR hb1 hg
      gi_wp2
      refine HR.out.mono ?_
      clear hc0 hc1 hy
      rintro e W3 (⟨rfl, hJ3, hk3⟩ | ⟨rfl, hJx3⟩)
      · have hr3 := hk3.row HR2.out
        rw [HG.out] at hr3
        have hc0 := hr3.cell 0
        have hc1 := hr3.cell 1
        simp only [List.getElem?_cons_zero, List.getElem?_cons_succ] at hc0 hc1
        obtain ⟨d, hd⟩ : ∃ d, d = k * t := ⟨_, rfl⟩
        have hmul : (k : Int) * (t : Int) = (d : Int) := by rw [hd, Int.natCast_mul]
        have hpa : padv l a = d := by rw [hd, HK.out, HT.out]; rfl
        have hle := padv_le (l := l) (a := a) (by have := HN.out; omega)
        have hpos := padv_pos (l := l) (a := a) (by have := HN.out; omega)
        rw [hpa] at hle hpos
        have hdw : IntKind.i64.wrap (d : Int) = (d : Int) := by rw [IntKind.wrap_i64]; have := HN.out; omega
        have hrel : SplitRel l A n c Bs w00 J (.int .i64 ((a + d : Nat) : Int)) W3 :=
          ⟨pre ++ [⟨a, hlt⟩], a + d, rfl, by have := HN.out; omega, by have := HCH.out.snoc ⟨a, hlt⟩ rfl; rw [hpa] at this; exact this, hJ3, hk3.box (HBS.out.below HB2.out HBS.out.lt), (HBW.out.trans (HB2.out.mono HBW.out.size)).trans hk3.1⟩
        have HREL := Lib.hid hrel
        have HWR := Lib.hid (show wrap64 ((a : Int) + (d : Int)) = ((a + d : Nat) : Int) by have := HN.out; unfold wrap64; omega)
        clear hr3 hd hpa hrel hk3 hJ3
        gi_wp2
        go_roundw
        case rel => rw [HWR.out]; exact HREL.out
        case measure => rw [HWR.out]; simp [intOf]; have := HN.out; omega
      · gi_wp2
        refine bodyPost_ret (results_none rfl _ _ _) rfl ?_
        exact ⟨⟨_, rfl⟩, .inr ⟨_, trivial, hJx3⟩⟩
    · have hlti : ¬ (a : Int) < (n : Int) := by omega
      have hend : Chain (·.1) (fun x : {a : Nat // a < n} => padv l x.1) pre n := by have := HCH.out; rwa [show a = n by omega] at this
      have HEND := Lib.hid hend
      clear hend
      gi_wp2
      go_end0
      exact ⟨⟨_, rfl⟩, .inl ⟨pre, HEND.out, HJP.out⟩⟩

/-! ### whole$1 -/
/-- A part that stands whole at a: how many bytes, how often. -/
def Stands (l : List UInt8) (a : Nat) : Prop := ∃ h : a < l.length, a + 1 + slen l[a] ≤ l.length
def sAt (l : List UInt8) (a : Nat) : UInt8 := l[a]?.getD 0
end Go.Proofs.YtlibofmpnlfelaaGreatDoor

/- The contract of byterle.Put. -/



namespace Go.Proofs.YtlibofmpnlfelaaGreatDoor

open Go.RowKit Go.Shelf

attribute [local go_sem] Oper.semAt_some

/-- The bytes that the part at a is laid down as. -/
def ypiece (l : List UInt8) (a : Nat) : List UInt8 := UInt8.ofNat (phead (plen (l.drop a)) (ptimes (l.drop a))) :: (l.drop a).take (plen (l.drop a))
theorem ypiece_yput {l : List UInt8} {a : Nat} (h : a < l.length) : yput (l.drop a) = ypiece l a ++ yput (l.drop (a + padv l a)) := by
  by_cases h3 : 3 ≤ ysame (l.drop a)
  · have e1 : plen (l.drop a) = 1 := by unfold plen; rw [if_pos h3]
    have e2 : ptimes (l.drop a) = ysame (l.drop a) := by unfold ptimes; rw [if_pos h3]
    have e3 : (l.drop a).take 1 = [l[a]] := by rw [drop_at h]; rfl
    unfold ypiece padv phead
    rw [e1, e2, if_pos h3, e3, Nat.one_mul, yput_run_at h h3]
  · have e1 : plen (l.drop a) = ylist (l.drop a) 0 := by unfold plen; rw [if_neg h3]
    have e2 : ptimes (l.drop a) = 1 := by unfold ptimes; rw [if_neg h3]
    unfold ypiece padv phead
    rw [e1, e2, if_neg (by omega), Nat.mul_one, yput_list_at h (by omega)]
theorem ypiece_len (l : List UInt8) (a : Nat) : (ypiece l a).length ≤ 129 := by
  have := plen_128 (l.drop a)
  unfold ypiece
  rw [List.length_cons, List.length_take]
  omega
/-- What parts are laid down as, one behind the other. -/
def ylay {n : Nat} (l : List UInt8) (xs : List {a : Nat // a < n}) : List UInt8 := xs.flatMap fun x => ypiece l x.1
theorem ylay_snoc {n : Nat} (l : List UInt8) (xs : List {a : Nat // a < n}) (x : {a : Nat // a < n}) : ylay l (xs ++ [x]) = ylay l xs ++ ypiece l x.1 := by simp [ylay]
theorem ylay_len {n : Nat} (l : List UInt8) : ∀ (xs : List {a : Nat // a < n}), (ylay l xs).length ≤ 129 * xs.length
  | [] => by simp [ylay]
  | x :: xs => by
    have h1 := ylay_len l xs
    have h2 := ypiece_len l x.1
    have h3 : ylay l (x :: xs) = ypiece l x.1 ++ ylay l xs := rfl
    rw [h3, List.length_append, List.length_cons]
    omega
theorem ylay_chain {n : Nat} {l : List UInt8} (hn : l.length = n) {xs : List {a : Nat // a < n}} {a : Nat} (h : Chain (·.1) (fun x => padv l x.1) xs a) : ylay l xs ++ yput (l.drop a) = yput l := by
  induction h with
  | nil => simp [ylay]
  | snoc h x hx ih =>
    subst hx
    rw [ylay_snoc, List.append_assoc, ← ypiece_yput (by have := x.2; omega)]
    exact ih

/-- split hands out a function value that captures a box with the bytes. -/
theorem split_any (v : Value) (w : World) (hv : ∃ A n c, v = .slice A n c) :
    Calls Tryz.prog 86 #[v] w (fun e w' => e = .returned (.func (.func 114) #[] #[.pointer (some ⟨w.heap.size, 0, none⟩)]) ∧ w' = w.alloc (.cells #[v] 25)) := by
  obtain ⟨A, n, c, rfl⟩ := hv
  go_enter Tryz.func86, Tryz.ntmps86
  go_wp2
  go_ret
  exact ⟨rfl, rfl⟩

set_option maxHeartbeats 4000000 in
set_option maxRecDepth 100000 in
theorem bput_any (l : List UInt8) (v : Value) (w : World) (hv : IsB l v w) (hb : l.length ≤ 1000000) :
    Calls Tryz.prog 55 #[v] w (RetE w (yputE l)) := by
  obtain ⟨A, c, rfl, hA, hnc, hcm, hl⟩ := hv
  obtain ⟨n, hn⟩ : ∃ n, n = l.length := ⟨_, rfl⟩
  rw [← hn] at hA hnc hb ⊢
  have hci : (c : Int) ≤ 9223372036854775807 := by unfold maxLen at hcm; omega
  by_cases hbig : n ≤ 4096
  · have hE : Hid (yputE l = (yput l, 0)) := Lib.hid (by unfold yputE; rw [if_pos (by omega)])
    have hbi : ¬ (4096 : Int) < (n : Int) := by omega
    have HN := Lib.hid hn
    have HS := Lib.hid fun (W : World) => split_any (.slice A n c) W ⟨_, _, _, rfl⟩
    refine (callsIn_wide (n := 9)).1 ?_
    refine callsIn_of_wp_marks Tryz.func55 rfl trivial ?_ rfl
    simp only [Tryz.ntmps55, List.size_toArray, List.length_cons, List.length_nil, Nat.reduceAdd, Nat.reduceSub, Array.replicate_succ, Array.replicate_zero, List.push_toArray, List.append_toArray, List.nil_append, List.cons_append]
    clear hn
    gi_wp2_with fail
    refine ⟨trivial, (callsIn_wide.2 (HS.out _)).mono ?_⟩
    rintro e w' ⟨rfl, rfl⟩
    have bO := Boxed.new w 25 (.slice none 0 0)
    have bN := Boxed.new (w.alloc (.cells #[.slice none 0 0] 25)) 25 (.slice A n c)
    rw [World.size_alloc] at bN
    have hB0 : Below w.heap.size w ((w.alloc (.cells #[.slice none 0 0] 25)).alloc (.cells #[.slice A n c] 25)) := ((Below.refl _ w).alloc (Nat.le_refl _) _).alloc (by simp) _
    gi_wp2_with fail
    refine wpIn_rangeFunc_ownH rfl (by omega) (gf := 114) (lb := #[.pointer (some ⟨w.heap.size + 1, 0, none⟩)]) rfl trivial (enters_of Tryz.func114 (by kernel_rfl) rfl)
      (split_stops l A n c (w.heap.size + 1) w _ HN.out.symm hb hnc hcm hl hB0 bN 8 (by omega)) (fun h k => Kps.trans h k) (Kps.turn (by simp; omega) (by simp)) (Below.refl _ _) (fun _ => rfl)
      (fun pre W => (∃ v, Boxed W w.heap.size 25 v ∧ W.ownsRow w.heap.size 5 1 v (ylay l pre).length ((ylay l pre).map bv) ∧ True) ∧ (Row W (w.heap.size + 1) 25 [.slice A n c] ∧ Below w.heap.size w W))
      (fun _ _ _ => False)
      (OwnFrom.and (Own.from (holdsRow_own w.heap.size w.heap.size 25 5 1 (fun pre => (ylay l pre).length) (fun pre => (ylay l pre).map bv) (fun _ _ => True)) _)
        (OwnFrom.and (Own.from (row_own (w.heap.size + 1) 25 (fun _ => [.slice A n c])) _) (ownFrom_below (Nat.le_refl _) (by simp; omega))))
      (fun _ _ _ _ _ hs _ _ => hs)
      ⟨⟨_, bO.alloc _, World.ownsRow_nil _ _ _ _, trivial⟩, bN, hB0⟩
      (fun x a' W => ∃ Bx, w.heap.size + 2 ≤ Bx ∧ Row W Bx 110 [.slice (A.map (·.add x.1)) (plen (l.drop x.1)) (c - x.1), .int .i64 (ptimes (l.drop x.1) : Int)] ∧
        a' = { tmps := #[.slice A n c, undef, .slice none 0 0, .int .i64 0, .pointer (some ⟨w.heap.size, 0, none⟩), .pointer (some ⟨Bx, 0, none⟩), .slice A n c, .int .i64 (n : Int), .bool false, .slice A n c, .func (.func 114) #[] #[.pointer (some ⟨w.heap.size + 1, 0, none⟩)], partV A c l x.1, undef, undef, undef, undef, undef, undef, undef, undef, undef, undef], defers := [] })
      (fun x a' s X Y row hs hg hrow => by
        obtain ⟨Bx, h1, h2, h3⟩ := hs
        exact ⟨Bx, h1, (Own.from (row_own Bx 110 (fun (_ : Unit) => _)) _) () X Y row h2 hg hrow, h3⟩)
      ?assign ?body ?done ?stop
    case assign =>
      rintro q pre x W K ⟨⟨v, hv, hrow, _⟩, hbs, hB⟩ hK
      unfold partV
      gi_wp2
      have h2 := (show Boxed W (w.heap.size + 1) 25 (.slice A n c) from hbs).lt
      exact hK _ _ ((KeepsOthers.alloc _ _).from _) (Kps.of_below ((Below.refl _ W).alloc (Nat.le_refl _) _) hB.size) ⟨⟨v, hv.alloc _, hrow.alloc _, trivial⟩, Row.alloc hbs _, hB.alloc hB.size _⟩ ⟨W.heap.size, by omega, heap_alloc_new W _, rfl⟩
    case body =>
      rintro q pre x a' W _ _ ⟨⟨v, hv, hrow, _⟩, hbs, hB⟩ ⟨Bx, hBx, bX, rfl⟩ hlt
      obtain ⟨a, ha⟩ := x
      dsimp only at bX ⊢
      unfold partV
      obtain ⟨d, hd⟩ : ∃ d, d = l.drop a := ⟨_, rfl⟩
      obtain ⟨k, hk⟩ : ∃ k, k = plen d := ⟨_, rfl⟩
      obtain ⟨t, ht⟩ : ∃ t, t = ptimes d := ⟨_, rfl⟩
      obtain ⟨p, hp⟩ : ∃ p, p = phead k t := ⟨_, rfl⟩
      rw [← hd, ← hk, ← ht] at bX ⊢
      have hdn : d ≠ [] := by intro e; have h1 := congrArg List.length e; rw [hd, List.length_drop, List.length_nil] at h1; have := HN.out; omega
      have hk1 : 1 ≤ k ∧ k ≤ 128 := ⟨by rw [hk]; exact plen_pos hdn, by rw [hk]; exact plen_128 _⟩
      have ht1 : t ≤ 130 := by rw [ht]; exact ptimes_130 _
      have hkd : k ≤ d.length := by rw [hk]; exact (plen_ptimes d).2.2
      have hp8 : p < 256 := by rw [hp]; unfold phead; split <;> omega
      have hpl := ylay_len l pre
      obtain ⟨out, hout⟩ : ∃ out, out = ylay l pre := ⟨_, rfl⟩
      rw [← hout] at hrow hpl
      have HD := Lib.hid hd
      have HK := Lib.hid hk
      have HT := Lib.hid ht
      have HPH := Lib.hid hp
      have HV := Lib.hid hv
      have HROW := Lib.hid hrow
      have HBS := Lib.hid hbs
      have HB := Lib.hid hB
      have HBX := Lib.hid bX
      have HOUT := Lib.hid hout
      clear hd hk ht hp hv hrow hbs hB bX hout
      gi_wp2_with fail
      refine wpIn_round_any (by kernel_rfl) (by kernel_rfl) ?_
      refine wpAny_region_list_tail 4 [.is v, .is (.agg #[.slice (A.map (·.add a)) k (c - a), .int .i64 (t : Int)]), .is (.int .u8 (p : Int)), .bytes [UInt8.ofNat p]] [some 12, some 13, some 14, some 15] (by kernel_rfl) (by kernel_rfl) (by kernel_rfl) rfl ⟨?_, ?_, ?_, ?_, trivial⟩ ?_
      · intro ρ W1 hb1 H
        exact gives_load rfl (H.old 4 _ (by kernel_rfl) rfl) Tryz.underlying25 rfl ((hb1.cell HV.out.lt).trans HV.out.cell) ⟨rfl, Below.refl _ _⟩
      · intro ρ W1 hb1 H
        exact gives_load_row rfl (H.old 5 _ (by kernel_rfl) rfl) Tryz.underlying110 rfl (by kernel_rfl) (HBX.out.below hb1 HBX.out.lt) ⟨rfl, Below.refl _ _⟩
      · intro ρ W1 hb1 H
        have e1 : ρ (.tmp 13) = .agg #[.slice (A.map (·.add a)) k (c - a), .int .i64 (t : Int)] := H.new 13 1 (by kernel_rfl)
        refine gives_call rfl (fun _ _ => by kernel_rfl) (H.func _) (args := #[.agg #[.slice (A.map (·.add a)) k (c - a), .int .i64 (t : Int)]]) (by simp [e1]) ?_
        exact (head_any _ k _ t W1 hk1.1 (by omega) (by omega)).mono fun _ _ h => ⟨_, h.1, by rw [← HPH.out]; rfl, h.2⟩
      · intro ρ W1 hb1 H
        have e1 : ρ (.tmp 14) = .int .u8 (p : Int) := H.new 14 2 (by kernel_rfl)
        have e2 : [UInt8.ofNat p].map bv = [.int .u8 (p : Int)] := by simp [bv, Nat.mod_eq_of_lt hp8]
        refine gives_one elemB rfl e1 rfl ⟨?_, (Below.refl _ _).alloc (Nat.le_refl _) _⟩
        have := isB_new W1 5 [UInt8.ofNat p] 1 rfl (by omega)
        rw [e2] at this
        exact this
      · intro vs W1 hb1 hfs
        have f0 : vs 0 = v := hfs 0 (by decide)
        have f1 : vs 1 = .agg #[.slice (A.map (·.add a)) k (c - a), .int .i64 (t : Int)] := hfs 1 (by decide)
        have f2 : vs 2 = .int .u8 (p : Int) := hfs 2 (by decide)
        have f3 : IsB [UInt8.ofNat p] (vs 3) W1 := hfs 3 (by decide)
        clear hfs
        simp only [putAll, Nat.zero_add, Nat.reduceAdd, List.drop_succ_cons, List.drop_zero]
        rw [f0, f1, f2]
        obtain ⟨A3, c3, e3, h31, h32, h33, h34⟩ := f3
        rw [e3]
        clear f0 f1 f2 e3
        have hown1 := own_later HROW.out hb1
        have hB1 := HB.out.trans (hb1.mono HB.out.size)
        have hz1 := hB1.size
        have HB11 := Lib.hid hb1
        have hA3 : A3 = none → 1 = 0 := by simpa using h31
        simp only [List.length_singleton]
        clear h31 h32 h33 hb1
        have hlen : out.length ≤ 1000000 := by omega
        go_wp2_with (at_builtin; refine wpList_join elemB rfl _ _ rfl w.heap.size _ _ _ _ _ _ ([UInt8.ofNat p].map bv) w rfl rfl hA3 (by simp) h34 (bv_one _) hown1 hB1 hz1 (by omega) (by omega) ?_)
        intro v2 w2 hown2 hb2 hg2 _
        obtain ⟨pb1, pb2, pb3, pb4⟩ := Boxed.put (show Boxed W1 w.heap.size 25 v from Row.below HV.out HB11.out HV.out.lt) (by decide) hown1 hown2 hg2
        have pk := Kps.append (T := 110) hown1 (Nat.le_refl _) (by decide) (Row.below HBS.out HB11.out (Row.lt HBS.out)) (by decide) hg2 hz1
        obtain ⟨B2, c2, rfl, _, _, _, _, _⟩ := own_shape hown2
        have hc1 := pb1.cell
        have hf1 := pb1.frozen
        have PB2 := Lib.hid pb2
        have PB3 := Lib.hid pb3
        have PB4 := Lib.hid pb4
        have PK := Lib.hid pk
        have PB1 := Lib.hid pb1
        have HB2 := Lib.hid hb2
        clear pb2 pb3 pb4 pk pb1 hb2 hown2 hg2 hown1 hB1 hz1 h34 hA3
        go_wp2
        refine goesOn_normal ?_
        obtain ⟨w3, hw3⟩ : ∃ w3, w3 = w2.setCell ⟨w.heap.size, 0, none⟩ (.slice B2 (out.length + 1) c2) := ⟨_, rfl⟩
        have hrow3 := PB3.out
        have hv3 := PB2.out
        have hk3 : KeepsOthers W w3 := by rw [hw3]; exact (below_others HB11.out).trans PB4.out
        have hB3 : Below w.heap.size w w3 := by rw [hw3]; exact HB2.out.setCell (Nat.le_refl _) _
        have hkp3 : Kps (w.heap.size + 1) 110 w.heap.size W w3 := by rw [hw3]; exact ((Kps.of_below HB11.out HB.out.size).trans PK.out).trans (Kps.set PB1.out (by decide) (by omega) (Nat.le_refl _) _)
        rw [← hw3] at hrow3 hv3 ⊢
        have hbx3 := hkp3.row HBX.out
        have hbs3 := hkp3.box HBS.out
        have hl3 : Lies w3 (A.map (·.add a)) ((d.take k).map bv) := by
          have h1 := (hl.below hB3).drop (k := a) (cap := c) (by rw [List.length_map]; have := HN.out; omega)
          rw [if_neg (by omega)] at h1
          have h2 := h1.take k
          rw [← List.map_drop, ← List.map_take, ← HD.out] at h2
          exact h2
        have hz3 := hB3.size
        have hc3 := hv3.cell
        have hx3 := hbx3.cell 0
        simp only [List.getElem?_cons_zero] at hx3
        have hA4 : A.map (·.add a) = none → k = 0 := by
          intro h
          have := hA (by simpa using h)
          omega
        have hdl : (d.take k).length = k := by rw [List.length_take]; omega
        have hdm : ((d.take k).map bv).length = k := by rw [List.length_map]; exact hdl
        have HDM := Lib.hid hdm
        have HDL := Lib.hid hdl
        have HK3 := Lib.hid hk3
        have HB3 := Lib.hid hB3
        have HKP3 := Lib.hid hkp3
        have HV3 := Lib.hid hv3
        have HBS3 := Lib.hid hbs3
        clear hw3 hc1 hf1 hk3 hkp3 hv3 hbx3 hbs3 hdm hdl PB1 PB2 PB3 PB4 PK HB2 HB11
        gi_wp2_with (gi_at_builtin; refine wpListIn_plainly (by kernel_rfl) ?_; refine wpList_join elemB rfl _ _ rfl w.heap.size _ _ _ _ _ _ ((d.take k).map bv) w rfl rfl hA4 HDM.out hl3 (bv_one _) hrow3 hB3 hz3 (by omega) (by omega) ?_)
        intro v4 w4 hown4 hb4 hg4 _
        obtain ⟨pb1, pb2, pb3, pb4⟩ := Boxed.put HV3.out (by decide) hrow3 hown4 hg4
        have pk := Kps.append (T := 110) hrow3 (Nat.le_refl _) (by decide) HBS3.out (by decide) hg4 hz3
        obtain ⟨B4, c4, rfl, _, _, _, _, _⟩ := own_shape hown4
        have hc1 := pb1.cell
        have hf1 := pb1.frozen
        have hx : ylay l (pre ++ [⟨a, ha⟩]) = out ++ (UInt8.ofNat p :: d.take k) := by
          rw [ylay_snoc, ← HOUT.out]
          unfold ypiece
          rw [← HD.out, ← HK.out, ← HT.out, ← HPH.out]
        have hx1 : (ylay l (pre ++ [⟨a, ha⟩])).length = out.length + 1 + k := by
          have := HDL.out
          rw [hx, List.length_append, List.length_cons]; omega
        have hx2 : (ylay l (pre ++ [⟨a, ha⟩])).map bv = out.map bv ++ bv (UInt8.ofNat p) :: (d.map bv).take k := by
          rw [hx, List.map_append, List.map_cons, List.map_take]
        have hI : (∃ v, Boxed (w4.setCell ⟨w.heap.size, 0, none⟩ (.slice B4 (out.length + 1 + k) c4)) w.heap.size 25 v ∧ (w4.setCell ⟨w.heap.size, 0, none⟩ (.slice B4 (out.length + 1 + k) c4)).ownsRow w.heap.size 5 1 v (ylay l (pre ++ [⟨a, ha⟩])).length ((ylay l (pre ++ [⟨a, ha⟩])).map bv) ∧ True) :=
          ⟨_, pb2, by rw [hx1, hx2]; exact pb3, trivial⟩
        have HI := Lib.hid hI
        have hkp5 : Kps (w.heap.size + 1) 110 w.heap.size W (w4.setCell ⟨w.heap.size, 0, none⟩ (.slice B4 (out.length + 1 + k) c4)) := (HKP3.out.trans pk).trans (Kps.set pb1 (by decide) (by omega) (Nat.le_refl _) _)
        have HKP5 := Lib.hid hkp5
        have HKO := Lib.hid (HK3.out.trans pb4)
        clear pb2 pb3 pb4 pk hown4 hg4 hrow3 hB3 hz3 hl3 hA4 hb4 hx hx1 hx2 hI hkp5 hc3 hx3 pb1
        go_wp2
        refine goesOn_normal ?_
        gi_wp2
        exact ⟨HKO.out.from _, HKP5.out, HI.out, HKP5.out.box HBS.out, HB.out.trans HKP5.out.1⟩
    case done =>
      rintro D xs W hD hch ⟨⟨v, hv, hrow, _⟩, hbs, hB⟩ hK
      have hend : ylay l xs = yput l := by
        have := ylay_chain HN.out.symm hch
        rw [List.drop_of_length_le (by have := HN.out; omega), yput_nil, List.append_nil] at this
        exact this
      rw [hend] at hrow
      have hc := hv.cell
      gi_wp2
      refine ⟨by simp, .inl ⟨_, _, rfl, run_takeDeferred hK, ?_⟩⟩
      refine ⟨_, results_tmp2 rfl _ _ _, ?_⟩
      rw [hE.out]
      exact ⟨v, rfl, isB_own (ownsRow_putObj hrow _ hK rfl), hB.trans (belowK_b (w := w) (Nat.le_refl _) W D _ _ (by simp at hD; omega) hK rfl rfl)⟩
    case stop =>
      rintro D c pre W _ _ h _
      exact h.elim
  · have hE : Hid (yputE l = ([], 3)) := Lib.hid (by unfold yputE; rw [if_neg (by omega)])
    have hbi : (4096 : Int) < (n : Int) := by omega
    clear hn hl hcm hA
    go_enter Tryz.func55, Tryz.ntmps55
    go_wp2
    go_ret2
    rw [hE.out]
    exact RetE.nil _ (Below.refl _ _)
end Go.Proofs.YtlibofmpnlfelaaGreatDoor

/- The contract of byterle.Take. -/



namespace Go.Proofs.YtlibofmpnlfelaaGreatDoor

open Go.RowKit Go.Shelf

attribute [local go_sem] Oper.semAt_some

/-- The bytes of the part at a. -/
def spiece (l : List UInt8) (a : Nat) : List UInt8 := (l.drop (a + 1)).take (slen (sAt l a))
/-- So many times the same bytes. -/
def rep (p : List UInt8) : Nat → List UInt8
  | 0 => []
  | k + 1 => rep p k ++ p
/-- What the parts come to. -/
def scont {l : List UInt8} (xs : List {a : Nat // Stands l a}) : List UInt8 := xs.flatMap fun x => rep (spiece l x.1) (stimes (sAt l x.1))
/-- Before each of these parts there were too few. -/
def Few (M : Nat) {l : List UInt8} (xs : List {a : Nat // Stands l a}) : Prop := ∀ ys zs, xs = ys ++ zs → zs ≠ [] → (scont ys).length < M
theorem Few.left {M : Nat} {l : List UInt8} {xs : List {a : Nat // Stands l a}} {x : {a : Nat // Stands l a}} (h : Few M (xs ++ [x])) : Few M xs ∧ (scont xs).length < M :=
  ⟨fun ys zs he hz => h ys (zs ++ [x]) (by rw [he, List.append_assoc]) (by simp), h xs [x] rfl (by simp)⟩
end Go.Proofs.YtlibofmpnlfelaaGreatDoor

/- Truths as bits of bytes, and these as runs of bytes (layer 6), as plain mathematics. -/





namespace Go.Proofs.YtlibofmpnlfelaaGreatDoor

def qn (l : List Bool) : List Nat := l.map Bool.toNat
theorem qn_len (l : List Bool) : (qn l).length = l.length := by simp [qn]
theorem qn_lt (l : List Bool) : ∀ x ∈ qn l, x < 2 ^ 1 := by
  intro x hx
  obtain ⟨b, _, rfl⟩ := List.mem_map.1 hx
  cases b <;> simp
theorem qn_snoc (l : List Bool) {k : Nat} (h : k < l.length) : qn (l.take (k + 1)) = qn (l.take k) ++ [l[k].toNat] := by
  rw [List.take_succ_eq_append_getElem h, qn, qn, List.map_append]; rfl
/-- Eight truths in a byte. -/
def qpack (l : List Bool) : List UInt8 := bpack (qn l) 1
theorem qpack_len (l : List Bool) : (qpack l).length = (l.length + 7) / 8 := by rw [qpack, bpack_len, qn_len, bsize]; simp
/-- What Put answers. -/
def qputE (l : List Bool) : List UInt8 × Int := if l.length ≤ 4096 then (yput (qpack l), 0) else ([], 3)
end Go.Proofs.YtlibofmpnlfelaaGreatDoor

/- Contracts of layer 6's reference: Same, Count, Put, Take. -/









namespace Go.Proofs.YtlibofmpnlfelaaGreatDoor

open Go.RowKit

def RQPutRel (l : List Bool) (g m : Nat) (w : World) (i : Value) (wr : World) : Prop :=
  ∃ (k : Nat) (out : List UInt8), i = .int .i64 (k : Int) ∧ k ≤ l.length ∧ out.length = m ∧ Row wr g 5 (out.map bv) ∧ bval out = pval 1 (qn (l.take k)) * 2 ^ (8 * m - k) ∧ Below w.heap.size w wr
theorem pval_step (l : List Bool) {k : Nat} (h : k < l.length) : pval 1 (qn (l.take (k + 1))) = pval 1 (qn (l.take k)) * 2 ^ 1 + l[k].toNat := by rw [qn_snoc l h, pval_snoc]
set_option maxHeartbeats 2000000 in
set_option maxRecDepth 100000 in
theorem rqput_any (l : List Bool) (v : Value) (w : World) (hl : IsV Value.bool l v w) (hb : l.length ≤ 1000000) :
    Calls Tryz.prog 23 #[v] w (RetE w (qputE l)) := by
  have HLv := Lib.hid hl
  obtain ⟨A, c, rfl, _, hnc, hcm, hlies⟩ := hl
  obtain ⟨n, hn⟩ : ∃ n, n = l.length := ⟨_, rfl⟩
  have hci : (c : Int) ≤ 9223372036854775807 := by unfold maxLen at hcm; omega
  rw [← hn] at hb hnc HLv ⊢
  have HN := Lib.hid hn
  clear hlies hcm
  by_cases hbig : n ≤ 4096
  · have hE : Hid (qputE l = (yput (qpack l), 0)) := Lib.hid (by unfold qputE; rw [if_pos (by omega)])
    have hbi : ¬ (4096 : Int) < (n : Int) := by omega
    obtain ⟨m, hm⟩ : ∃ m, m = (n + 7) / 8 := ⟨_, rfl⟩
    have hmi : ((n : Int) + 7) / 8 = (m : Int) := by omega
    have hm8 : n ≤ 8 * m := by omega
    have hm5 : m ≤ 600 := by omega
    have HM := Lib.hid hm
    clear hn hm
    go_enter Tryz.func23, Tryz.ntmps23
    go_wp2_with (refine wpList_make elemB rfl _ _ rfl _ _ _ _ m w w.heap.size rfl rfl ?_ ?_ (by omega) (by omega) (Below.refl _ _) (Nat.le_refl _) ?_)
    intro w1 hr1 hb1
    have hr2 : Row w1 w.heap.size 5 ((List.replicate m (0 : UInt8)).map bv) := by simpa using hr1
    have hst : RQPutRel l w.heap.size m w (.int .i64 0) w1 := ⟨0, List.replicate m 0, rfl, by omega, by simp, hr2, by rw [bval_zeros]; simp [pval, qn], hb1⟩
    clear hr1 hr2 hb1
    go_wp2
    go_loopw [5] (RQPutRel l w.heap.size m w) (fun i _ => n - (intOf i).toNat)
    case atStart => exact hst
    case round =>
      obtain ⟨T, o, rfl, hk, hlen, hr, hval, hbw⟩ := hrel
      have HVal := Lib.hid hval
      have HLe := Lib.hid hlen
      clear hst hval hlen
      have hk' : T ≤ n := by have := HN.out; omega
      by_cases hlt : T < n
      · have hkl : T < l.length := by have := HN.out; omega
        obtain ⟨ad, e1, _, hcell⟩ := (HLv.out.below hbw).at hkl
        subst e1
        have HP := Lib.hid (pval_step l hkl)
        have hT8 : T + 1 ≤ 8 * m := by omega
        cases hx : l[T] with
        | false =>
          rw [hx] at hcell HP
          clear hx
          go_wp2
          go_roundw
          case rel => exact ⟨T + 1, o, by go_num, by omega, HLe.out, hr, by rw [HVal.out, HP.out]; exact step_zero _ m T hT8, hbw⟩
          case measure => simp [intOf]; omega
        | true =>
          rw [hx] at hcell HP
          clear hx
          go_wp2
          refine wp_region_tail 13 (by kernel_rfl) (by kernel_rfl) ?_
          have hr2 : Row wr.drew w.heap.size 5 (o.map bv) := hr
          have hb2 : Below w.heap.size w wr.drew := hbw.drew
          clear hr hbw hcell
          generalize wr.drew = w2 at *
          obtain ⟨q, hq⟩ : ∃ q, q = T / 8 := ⟨_, rfl⟩
          obtain ⟨e, he⟩ : ∃ e, e = T % 8 := ⟨_, rfl⟩
          obtain ⟨r, hr'⟩ : ∃ r, r = 8 - T % 8 := ⟨_, rfl⟩
          obtain ⟨d, hd⟩ : ∃ d, d = r - 1 := ⟨_, rfl⟩
          obtain ⟨hqo, hl1, hl2, hl3, hl4⟩ := laid_at (n := 1) (piece := 1) hq hr' hd HLe.out (by omega) (by omega) hT8 (by omega) HVal.out
          have hqi : (T : Int) / 8 = (q : Int) := by omega
          have hei : (T : Int) % 8 = (e : Int) := by omega
          have hwq : IntKind.i64.wrap (q : Int) = (q : Int) := by rw [IntKind.wrap_i64]; omega
          have htm : (T : Int).tmod 8 = (e : Int) := by rw [Int.tmod_eq_emod_of_nonneg (by omega)]; exact hei
          have hwe : IntKind.i64.wrap (e : Int) = (e : Int) := by rw [IntKind.wrap_i64]; omega
          have hqm : (q : Int) < (m : Int) := by omega
          have he8 : e < 8 := by omega
          obtain ⟨D, hD⟩ : ∃ D, D = 2 ^ d := ⟨_, rfl⟩
          have hsr : (128 : Int) / 2 ^ e = (D : Int) := by rw [shr128 e he8, hD, show 7 - e = d by omega]
          rw [Nat.one_mul, ← hD] at hl2 hl3 hl4
          obtain ⟨B, hB⟩ : ∃ B, B = o[q].toNat := ⟨_, rfl⟩
          have hcB : w2.cell? ⟨w.heap.size, q, none⟩ = some (.int .u8 (B : Int)) := by
            rw [hr2.cell, List.getElem?_map, List.getElem?_eq_getElem hqo, hB]; rfl
          have hfB := hr2.free q
          rw [← hB] at hl2 hl4
          obtain ⟨C, hC⟩ : ∃ C, C = B + D := ⟨_, rfl⟩
          have hadd : IntKind.u8.wrap ((B : Int) + (D : Int)) = (C : Int) := by rw [IntKind.wrap_u8]; omega
          have hadd2 : ((B : Int) + (D : Int)) % 256 = (C : Int) := by omega
          rw [← hC] at hl2 hl4
          have HL4 := Lib.hid hl4
          have HL2 := Lib.hid hl2
          clear hq he hr' hd hD hB hC hl1 hl2 hl3 hl4
          simp only [List.take_succ_cons, List.take_zero, List.drop_succ_cons, List.drop_zero]
          repeat still_step
          refine wpStill_nil ?_
          go_wp2
          go_roundw
          case rel =>
            refine ⟨T + 1, o.set q (UInt8.ofNat C), by go_num, by omega, by rw [List.length_set]; exact HLe.out, row_set hr2 q C HL2.out, ?_, hb2.setCell (Nat.le_refl _) _⟩
            rw [HL4.out, HP.out]; rfl
          case measure => simp [intOf]; omega
      · obtain rfl : T = n := by omega
        have hob : o = qpack l := by
          have hv := HVal.out
          rw [List.take_of_length_le (by have := HN.out; omega)] at hv
          unfold qpack bpack
          rw [qn_len, ← HN.out, show bsize T 1 = m by rw [HM.out, bsize, Nat.mul_one], Nat.one_mul]
          exact eq_be HLe.out hv
        have hI := isB_row hr HLe.out (by omega)
        rw [hob] at hI
        have hR := rput5_any (qpack l) _ wr hI (by rw [qpack_len]; have := HN.out; omega)
        have hyE : yputE (qpack l) = (yput (qpack l), 0) := by unfold yputE; rw [if_pos (by rw [qpack_len]; have := HN.out; omega)]
        rw [hyE] at hR
        have HR := Lib.hid hR
        have HB := Lib.hid hbw
        clear hob hI hR hyE hr hbw
        go_wp2_with fail
        refine HR.out.mono ?_
        rintro e w3 ⟨v3, rfl, hv3, hb3⟩
        have HV3 := Lib.hid hv3
        have HB3 := Lib.hid (below_then HB.out hb3)
        clear hv3 hb3
        go_wp2
        go_ret2
        rw [hE.out]
        exact ⟨_, rfl, HV3.out, HB3.out⟩
  · have hE : Hid (qputE l = ([], 3)) := Lib.hid (by unfold qputE; rw [if_neg (by omega)])
    have hbi : (4096 : Int) < (n : Int) := by omega
    clear hn hnc
    go_enter Tryz.func23, Tryz.ntmps23
    go_wp2
    go_ret2
    rw [hE.out]
    exact RetE.nil _ (Below.refl _ _)
end Go.Proofs.YtlibofmpnlfelaaGreatDoor

/- The contract of layer 6's reference's Take. -/





namespace Go.Proofs.YtlibofmpnlfelaaGreatDoor

open Go.RowKit

/-- Truths, bytes and an error that a call answers. -/
def RetLB (w : World) (p : List Bool × List UInt8 × Int) (e : Ending) (w' : World) : Prop :=
  ∃ u v, e = .returned (.tuple #[u, v, .int .i64 p.2.2]) ∧ IsV Value.bool p.1 u w' ∧ IsB p.2.1 v w' ∧ Below w.heap.size w w'
theorem RetLB.nil {w w' : World} (n : Int) (hb : Below w.heap.size w w') : RetLB w ([], [], n) (.returned (.tuple #[.slice none 0 0, .slice none 0 0, .int .i64 n])) w' := ⟨_, _, rfl, isV_nil _ _, isB_nil _, hb⟩
/-- The same, the truths in a row of the call's own. -/
def RetLBO (w : World) (p : List Bool × List UInt8 × Int) (e : Ending) (w' : World) : Prop :=
  ∃ u v, e = .returned (.tuple #[u, v, .int .i64 p.2.2]) ∧ OwnV Value.bool 4 w p.1 u w' ∧ IsB p.2.1 v w' ∧ Below w.heap.size w w'
theorem RetLBO.nil {w w' : World} (n : Int) (hb : Below w.heap.size w w') : RetLBO w ([], [], n) (.returned (.tuple #[.slice none 0 0, .slice none 0 0, .int .i64 n])) w' := ⟨_, _, rfl, OwnV.nil _ _ _ _, isB_nil _, hb⟩
end Go.Proofs.YtlibofmpnlfelaaGreatDoor

/- boolrle's own contracts. -/





namespace Go.Proofs.YtlibofmpnlfelaaGreatDoor

open Go.RowKit

/-- How many bytes so many truths need. -/
theorem qsize_any (n m : Nat) (w : World) (hn : n ≤ 100000) (hm : m = (n + 7) / 8) : Calls Tryz.prog 57 #[.int .i64 (n : Int)] w fun e w' => e = .returned (.int .i64 (m : Int)) ∧ w = w' := by
  have hmi : ((n : Int) + 7) / 8 = (m : Int) := by omega
  have hmj : ((n : Int) + 8 - 1) / 8 = (m : Int) := by omega
  have HM := Lib.hid hm
  clear hm
  go_enter Tryz.func57, Tryz.ntmps57
  go_wp2
  go_ret
  exact ⟨ret_int (by omega), rfl⟩

/-- The byte of the truths that stand at the front. -/
def qbyte (l : List Bool) : Nat := pval 1 (qn (l.take 8)) * 2 ^ (8 - min 8 l.length)
theorem qval_lt (l : List Bool) : pval 1 (qn l) < 2 ^ l.length := by
  have := pval_lt (w := 1) (l := qn l) (qn_lt l)
  rwa [qn_len, Nat.one_mul] at this
theorem qbyte_lt (l : List Bool) : qbyte l < 256 := by
  have h := qval_lt (l.take 8)
  rw [List.length_take] at h
  unfold qbyte
  calc _ < 2 ^ min 8 l.length * 2 ^ (8 - min 8 l.length) := Nat.mul_lt_mul_of_pos_right h (Nat.two_pow_pos _)
    _ = 256 := by rw [← Nat.pow_add, show min 8 l.length + (8 - min 8 l.length) = 8 by omega]
def QFirstRel (l : List Bool) (n : Nat) (w : World) (c i : Value) (wr : World) : Prop :=
  ∃ k C : Nat, k ≤ n ∧ i = .int .i64 (k : Int) ∧ c = .int .u8 (C : Int) ∧ C = pval 1 (qn (l.take k)) * 2 ^ (8 - k) ∧ C < 256 ∧ wr = w
set_option maxHeartbeats 1000000 in
theorem qfirst_any (l : List Bool) (v : Value) (w : World) (hl : IsV Value.bool l v w) :
    Calls Tryz.prog 59 #[v] w fun e w' => e = .returned (.int .u8 (qbyte l : Int)) ∧ w = w' := by
  have HLv := Lib.hid hl
  obtain ⟨A, n, c, rfl⟩ := hl.shape
  obtain ⟨hn, _, hnc, hcm, _⟩ := hl.parts
  obtain ⟨k0, hk0⟩ : ∃ k, k = min 8 n := ⟨_, rfl⟩
  have hk8 : k0 ≤ 8 := by omega
  have hkn : k0 ≤ n := by omega
  have hmin : ∀ (ts : Array TypeId) (t : TypeId) (W : World), (Builtin.min_ ts t #[.int .i64 (n : Int), .int .i64 8]).run Tryz.prog W = .ok (.int .i64 (k0 : Int)) W := fun ts t W => by
    rw [run_min_int2]
    congr 2
    split <;> omega
  have HN := Lib.hid hn
  have HK := Lib.hid hk0
  clear hl hn hk0 hcm
  go_enter Tryz.func59, Tryz.ntmps59
  go_wp2
  go_loopw [3, 8] (QFirstRel l k0 w) (fun _ i _ => k0 - (intOf i).toNat)
  case atStart => exact ⟨0, 0, by omega, rfl, rfl, by simp [pval, qn], by omega, rfl⟩
  case round =>
    obtain ⟨k, C, hk, rfl, rfl, hC, hC8, rfl⟩ := hrel
    have HC := Lib.hid hC
    clear hC
    by_cases hlt : k < k0
    · have hkl : k < l.length := by have := HN.out; omega
      have hkn' : k < n := by omega
      obtain ⟨ad, e1, _, hcell⟩ := HLv.out.at hkl
      subst e1
      have hs := qn_snoc l hkl
      have HS := Lib.hid hs
      clear hs
      have hk8' : k < 8 := by omega
      obtain ⟨D, hD⟩ : ∃ D, D = 2 ^ (7 - k) := ⟨_, rfl⟩
      have hsh : (128 : Int) / 2 ^ k = (D : Int) := by rw [shr128 k hk8', hD]
      have h2 : 2 ^ (8 - k) = 2 * 2 ^ (7 - k) := by rw [show 8 - k = (7 - k) + 1 by omega, Nat.pow_succ, Nat.mul_comm]
      have hV := qval_lt (l.take k)
      rw [List.length_take, Nat.min_eq_left (by omega)] at hV
      have hCD : C + D < 256 := by
        rw [HC.out, hD, h2]
        have h3 : (pval 1 (qn (l.take k)) + 1) * (2 * 2 ^ (7 - k)) ≤ 2 ^ k * (2 * 2 ^ (7 - k)) := Nat.mul_le_mul_right _ hV
        rw [← h2, ← Nat.pow_add, show k + (8 - k) = 8 by omega, h2, Nat.add_mul] at h3
        have := Nat.two_pow_pos (7 - k)
        omega
      have hor : bits .or .u8 (C : Int) (D : Int) = ((C + D : Nat) : Int) := by
        refine or_byte (8 - k) C D ?_ ?_ hCD
        · rw [HC.out]; exact Nat.mul_mod_left _ _
        · rw [hD, h2]; have := Nat.two_pow_pos (7 - k); omega
      obtain ⟨E, hE⟩ : ∃ E, E = C + D := ⟨_, rfl⟩
      rw [← hE] at hor
      have HD := Lib.hid hD
      have HE := Lib.hid hE
      clear hD h2 hV hCD hE
      cases hx : l[k] with
      | true =>
        rw [hx] at hcell HS
        clear hx
        have hrel : E = pval 1 (qn (l.take (k + 1))) * 2 ^ (8 - (k + 1)) := by
          rw [HE.out, HC.out, HD.out, HS.out, pval_snoc, show 8 - k = (7 - k) + 1 by omega, show 8 - (k + 1) = 7 - k by omega, Nat.pow_succ, Nat.pow_one, Nat.add_mul]
          simp only [Bool.toNat_true, Nat.one_mul, Nat.mul_assoc, Nat.mul_comm, Nat.mul_left_comm]
        have hE8 : E < 256 := by
          have h3 := qval_lt (l.take (k + 1))
          rw [List.length_take, Nat.min_eq_left (by omega)] at h3
          rw [hrel]
          calc _ < 2 ^ (k + 1) * 2 ^ (8 - (k + 1)) := Nat.mul_lt_mul_of_pos_right h3 (Nat.two_pow_pos _)
            _ = 256 := by rw [← Nat.pow_add, show k + 1 + (8 - (k + 1)) = 8 by omega]
        have HRel := Lib.hid hrel
        clear hrel
        go_wp2
        go_roundw
        case rel => exact ⟨k + 1, E, by omega, by go_num, rfl, HRel.out, hE8, rfl⟩
        case measure => simp [intOf]; omega
      | false =>
        rw [hx] at hcell HS
        clear hx
        have hrel : C = pval 1 (qn (l.take (k + 1))) * 2 ^ (8 - (k + 1)) := by
          rw [HC.out, HS.out, pval_snoc, show 8 - k = (7 - k) + 1 by omega, show 8 - (k + 1) = 7 - k by omega, Nat.pow_succ, Nat.pow_one]
          simp only [Bool.toNat_false, Nat.add_zero, Nat.mul_assoc, Nat.mul_comm, Nat.mul_left_comm]
        have HRel := Lib.hid hrel
        clear hrel
        go_wp2
        go_roundw
        case rel => exact ⟨k + 1, C, by omega, by go_num, rfl, HRel.out, hC8, rfl⟩
        case measure => simp [intOf]; omega
    · obtain rfl : k = k0 := by omega
      have hE : C = qbyte l := by
        unfold qbyte
        have h1 := HK.out
        rw [HN.out, ← h1, HC.out]
        congr 3
        rcases Nat.lt_or_ge n 8 with h | h
        · rw [List.take_of_length_le (by have := HN.out; omega), List.take_of_length_le (by have := HN.out; omega)]
        · rw [show k = 8 by omega]
      have HQ := Lib.hid hE
      clear hE
      go_wp2
      go_ret
      exact ⟨ret_int (by rw [HQ.out]), rfl⟩

/-- What Put hands to made: the byte at a place. -/
theorem qput1_any (l : List Bool) (v : Value) (b i : Nat) (w : World) (hbx : Row w b 45 [v]) (hl : IsV Value.bool l v w) (hi : 8 * i ≤ l.length) (hb : l.length ≤ 1000000) :
    Calls Tryz.prog 58 #[.int .i64 (i : Int), .pointer (some ⟨b, 0, none⟩)] w fun e w' => e = .returned (.int .u8 (qbyte (l.drop (8 * i)) : Int)) ∧ w = w' := by
  obtain ⟨A, n, c, rfl⟩ := hl.shape
  obtain ⟨hn, _, hnc, hcm, _⟩ := hl.parts
  obtain ⟨k, hk⟩ : ∃ k, k = 8 * i := ⟨_, rfl⟩
  rw [← hk]
  have hki : (i : Int) * 8 = (k : Int) := by omega
  have hkn : k ≤ n := by omega
  obtain ⟨u, hu, hU⟩ := fromV_named elemL hkn hl
  have HU := Lib.hid hU
  have hc0 := hbx.cell 0
  clear hU hl hn hcm hk
  go_enter Tryz.func58, Tryz.ntmps58
  go_wp2_with (go_at_call 59; refine (qfirst_any _ u w HU.out).mono ?_; rintro e w' ⟨rfl, rfl⟩)
  go_ret
  exact ⟨rfl, rfl⟩
/-- The bytes of truths, one at each place. -/
def qbytes (l : List Bool) (m : Nat) : List UInt8 := (List.range m).map fun i => UInt8.ofNat (qbyte (l.drop (8 * i)))
theorem qbytes_len (l : List Bool) (m : Nat) : (qbytes l m).length = m := by simp [qbytes]
theorem qbytes_take (l : List Bool) {k m : Nat} (h : k < m) : (qbytes l m).take (k + 1) = (qbytes l m).take k ++ [UInt8.ofNat (qbyte (l.drop (8 * k)))] := by
  rw [List.take_succ_eq_append_getElem (by rw [qbytes_len]; exact h)]
  congr 2
  simp [qbytes]
theorem set_take {α : Type} (o : List α) (k : Nat) (x : α) (h : k < o.length) : (o.set k x).take (k + 1) = o.take k ++ [x] := by
  rw [List.take_succ_eq_append_getElem (by simpa using h), List.take_set_of_le (Nat.le_refl _)]
  simp
def QMadeBRel (T : List UInt8) (m g : Nat) (w : World) (i : Value) (wr : World) : Prop :=
  ∃ (k : Nat) (o : List UInt8), k ≤ m ∧ i = .int .i64 (k : Int) ∧ o.length = m ∧ o.take k = T.take k ∧ Row wr g 5 (o.map bv) ∧ Below g w wr
set_option maxHeartbeats 1000000 in
theorem qmadeb_any (l : List Bool) (v : Value) (b m : Nat) (w : World) (hbx : Row w b 45 [v]) (hl : IsV Value.bool l v w) (hm : 8 * m ≤ l.length + 7) (hb : l.length ≤ 100000) :
    Calls Tryz.prog 56 #[.int .i64 (m : Int), .func (.func 58) #[] #[.pointer (some ⟨b, 0, none⟩)]] w
      fun e w' => ∃ u, e = .returned u ∧ IsB (qbytes l m) u w' ∧ Below w.heap.size w w' := by
  have HL := Lib.hid hl
  have HB := Lib.hid hbx
  have hm5 : m ≤ 100000 := by omega
  clear hl hbx
  go_enter Tryz.func56, Tryz.ntmps56
  go_wp2_with (refine wpList_make elemB rfl _ _ rfl _ _ _ _ m w w.heap.size rfl rfl rfl rfl (by omega) (by omega) (Below.refl _ _) (Nat.le_refl _) ?_)
  intro w1 hr1 hb1
  have hst : QMadeBRel (qbytes l m) m w.heap.size w (.int .i64 0) w1 := ⟨0, List.replicate m 0, by omega, rfl, by simp, by simp, by simpa using hr1, hb1⟩
  clear hr1 hb1
  go_wp2
  go_loopw [11] (QMadeBRel (qbytes l m) m w.heap.size w) (fun i _ => m - (intOf i).toNat)
  case atStart => exact hst
  case round =>
    obtain ⟨k, o, hk, rfl, ho, hok, hr, hbr⟩ := hrel
    have HO := Lib.hid ho
    have HOK := Lib.hid hok
    clear ho hok hst
    by_cases hlt : k < m
    · have hlt2 : (k : Int) < (m : Int) := by omega
      obtain ⟨C, hC⟩ : ∃ C, C = qbyte (l.drop (8 * k)) := ⟨_, rfl⟩
      have hC8 : C < 256 := by rw [hC]; exact qbyte_lt _
      have hcall := qput1_any l v b k wr (HB.out.below hbr HB.out.lt) (HL.out.below hbr) (by omega) (by omega)
      rw [← hC] at hcall
      have HCall := Lib.hid hcall
      have HC := Lib.hid hC
      have hko : k < o.length := by have := HO.out; omega
      have hcx : wr.cell? ⟨w.heap.size, k, none⟩ = some (bv o[k]) := by rw [hr.cell, List.getElem?_map, List.getElem?_eq_getElem hko]; rfl
      have hfx := hr.free k
      have hr2 := row_set hr k C hC8
      have HR2 := Lib.hid hr2
      clear hcall hC hr2
      go_wp2_with (go_at_call 58; refine HCall.out.mono ?_; rintro e w' ⟨rfl, rfl⟩)
      go_roundw
      case rel =>
        refine ⟨k + 1, o.set k (UInt8.ofNat C), by omega, by go_num, by rw [List.length_set]; exact HO.out, ?_, HR2.out, hbr.setCell (Nat.le_refl _) _⟩
        rw [set_take _ _ _ hko, HOK.out, qbytes_take l hlt, ← HC.out]
      case measure => simp [intOf]; omega
    · obtain rfl : k = m := by omega
      have hlt2 : ¬ (k : Int) < (k : Int) := by omega
      have hT : o = qbytes l k := by
        have h1 := HOK.out
        rw [List.take_of_length_le (by rw [HO.out]; omega), List.take_of_length_le (by rw [qbytes_len]; omega)] at h1
        exact h1
      have HT := Lib.hid hT
      have HR := Lib.hid hr
      have HBR := Lib.hid hbr
      clear hT hr hbr
      go_wp2
      go_ret
      refine ⟨_, rfl, ?_, HBR.out⟩
      rw [← HT.out]
      exact isB_row HR.out HO.out (by omega)
theorem pval_append (w : Nat) (a b : List Nat) : pval w (a ++ b) = pval w a * 2 ^ (w * b.length) + pval w b := by
  induction a with
  | nil => simp [pval]
  | cons x r ih => rw [List.cons_append, pval, pval, ih, List.length_append, Nat.mul_add, Nat.pow_add, Nat.add_mul, Nat.mul_assoc]; omega
theorem bval_qbytes (l : List Bool) : ∀ k, 8 * k ≤ l.length + 7 → bval (qbytes l k) = pval 1 (qn (l.take (8 * k))) * 2 ^ (8 * k - min (8 * k) l.length)
  | 0, _ => by simp [qbytes, bval, pval, qn]
  | k + 1, h => by
    have ih := bval_qbytes l k (by omega)
    rw [show min (8 * k) l.length = 8 * k by omega, Nat.sub_self, Nat.pow_zero, Nat.mul_one] at ih
    have hs : qbytes l (k + 1) = qbytes l k ++ [UInt8.ofNat (qbyte (l.drop (8 * k)))] := by simp [qbytes, List.range_succ]
    rw [hs, bval_append, ih, show 8 * (k + 1) = 8 * k + 8 by omega, List.take_add, show qn (l.take (8 * k) ++ (l.drop (8 * k)).take 8) = qn (l.take (8 * k)) ++ qn ((l.drop (8 * k)).take 8) from List.map_append, pval_append]
    have h1 : bval [UInt8.ofNat (qbyte (l.drop (8 * k)))] = qbyte (l.drop (8 * k)) := by
      simp only [bval, List.length_nil, Nat.pow_zero, Nat.mul_one, Nat.add_zero, UInt8.toNat_ofNat', Nat.reducePow]
      exact Nat.mod_eq_of_lt (qbyte_lt _)
    rw [h1]
    unfold qbyte
    rw [qn_len, List.length_take, List.length_drop, List.length_singleton, Nat.pow_one, Nat.one_mul, show 8 * k + 8 - min (8 * k + 8) l.length = 8 - min 8 (l.length - 8 * k) by omega, Nat.add_mul, Nat.mul_assoc, ← Nat.pow_add,
      show min 8 (l.length - 8 * k) + (8 - min 8 (l.length - 8 * k)) = 8 by omega]
theorem qbytes_qpack (l : List Bool) (m : Nat) (hm : m = (l.length + 7) / 8) : qbytes l m = qpack l := by
  have hb : bsize (qn l).length 1 = m := by rw [qn_len, bsize, hm, Nat.mul_one]
  unfold qpack bpack
  rw [hb]
  refine eq_be (qbytes_len _ _) ?_
  rw [bval_qbytes l m (by omega), List.take_of_length_le (by omega), qn_len, show min (8 * m) l.length = l.length by omega, Nat.one_mul]

set_option maxHeartbeats 1000000 in
theorem qput_any (l : List Bool) (v : Value) (w : World) (hl : IsV Value.bool l v w) (hb : l.length ≤ 1000000) :
    Calls Tryz.prog 34 #[v] w (RetE w (qputE l)) := by
  have HL := Lib.hid hl
  obtain ⟨A, n, c, rfl⟩ := hl.shape
  obtain ⟨hn, _, _, _, _⟩ := hl.parts
  have HN := Lib.hid hn
  have hb2 : n ≤ 1000000 := by omega
  clear hl hb hn
  have hbA : Below w.heap.size w (w.alloc (.cells #[.slice A n c] 45)) := (Below.refl _ _).alloc (Nat.le_refl _) _
  have hrow : Row (w.alloc (.cells #[.slice A n c] 45)) w.heap.size 45 [.slice A n c] := heap_alloc_new w _
  by_cases hbig : n ≤ 4096
  · have hE : Hid (qputE l = (yput (qpack l), 0)) := Lib.hid (by unfold qputE; rw [if_pos (by rw [HN.out]; exact hbig)])
    have hbi : ¬ (4096 : Int) < (n : Int) := by omega
    obtain ⟨m, hm⟩ : ∃ m, m = (n + 7) / 8 := ⟨_, rfl⟩
    have HM := Lib.hid hm
    have hmade := qmadeb_any l _ w.heap.size m _ hrow (HL.out.below hbA) (by rw [HN.out]; omega) (by rw [HN.out]; omega)
    rw [qbytes_qpack l m (by rw [HN.out]; exact hm)] at hmade
    have HMade := Lib.hid hmade
    have hq5 : (qpack l).length ≤ 4096 := by rw [qpack_len, HN.out]; omega
    have HQ := Lib.hid hq5
    clear hm hmade hq5
    go_enter Tryz.func34, Tryz.ntmps34
    go_wp2_with (first | (go_at_call 57; refine (qsize_any n m _ (by omega) HM.out).mono ?_; rintro e w' ⟨rfl, rfl⟩) | (go_at_call 56; refine HMade.out.mono ?_))
    rintro e w2 ⟨u, rfl, hu, hb2'⟩
    have HU := Lib.hid hu
    have HB2 := Lib.hid (hbA.trans (hb2'.mono (by simp)))
    clear hu hb2' hrow hbA
    go_wp2_with (go_at_call 55; refine (bput_any _ u w2 HU.out (by have := HQ.out; omega)).mono ?_)
    rintro e w3 ⟨v3, rfl, hv3, hb3⟩
    have HV3 := Lib.hid hv3
    have HB3 := Lib.hid (below_then HB2.out hb3)
    have hy : yputE (qpack l) = (yput (qpack l), 0) := by unfold yputE; rw [if_pos HQ.out]
    rw [hy] at HV3
    simp only [hy]
    clear hv3 hb3 hy
    go_wp2
    go_ret2
    rw [hE.out]
    exact ⟨_, rfl, HV3.out, HB3.out⟩
  · have hE : Hid (qputE l = ([], 3)) := Lib.hid (by unfold qputE; rw [if_neg (by rw [HN.out]; exact hbig)])
    have hbi : (4096 : Int) < (n : Int) := by omega
    go_enter Tryz.func34, Tryz.ntmps34
    go_wp2
    go_ret2
    rw [hE.out]
    exact RetE.nil _ hbA

end Go.Proofs.YtlibofmpnlfelaaGreatDoor

/- Values of columns (layer 12), as plain mathematics. -/







namespace Go.Proofs.YtlibofmpnlfelaaGreatDoor

/-- A value: nothing, a number, a text. -/
structure CV where
  null : Bool
  n : Int
  s : ByteArray
def cv (v : CV) : Value := .agg #[.bool v.null, .int .i64 v.n, .string v.s]
def CV.inInt (v : CV) : Prop := -9223372036854775808 ≤ v.n ∧ v.n ≤ 9223372036854775807
end Go.Proofs.YtlibofmpnlfelaaGreatDoor

/- Contracts of layer 12's reference. -/







namespace Go.Proofs.YtlibofmpnlfelaaGreatDoor

open Go.RowKit

def kcells (v : CV) : List Value := [.bool v.null, .int .i64 v.n, .string v.s]
/-- A column: its name, its kind. -/
structure CC where
  s : ByteArray
  kind : Int
end Go.Proofs.YtlibofmpnlfelaaGreatDoor

/- Contracts of what the program's layer 12 calls of Go's library: strings.HasPrefix, strings.Compare, cmp.Compare at int. -/













namespace Go.Proofs.YtlibofmpnlfelaaGreatDoor

open Go.RowKit

set_option maxHeartbeats 1000000 in
theorem llite_prefix (s p : ByteArray) (w : World) : Calls Tryz.prog 85 #[.string s, .string p] w fun e w' => e = .returned (.bool (Lib.hasPrefix s.data.toList p.data.toList)) ∧ w = w' := by
  rw [← Lib.hasPrefix_of_take, ← Lib.size_eq, ← Lib.size_eq]
  go_enter Tryz.func85, Tryz.ntmps85
  go_wp2
  · rename_i h
    go_ret
    refine ⟨?_, rfl⟩
    show Ending.returned (Value.bool ((s.extract 0 p.size).toList == p.toList)) = _
    rw [Lib.extract_toList, Lib.toList_data]
    simp [h]
  · rename_i h
    go_ret
    refine ⟨?_, rfl⟩
    show Ending.returned (Value.bool false) = _
    simp [h]
theorem lprefix_any (s p : ByteArray) (w : World) : Calls Tryz.prog 54 #[.string s, .string p] w fun e w' => e = .returned (.bool (Lib.hasPrefix s.data.toList p.data.toList)) ∧ w = w' := by
  go_enter Tryz.func54, Tryz.ntmps54
  go_wp2_with (go_at_call 85; refine (llite_prefix _ _ _).mono ?_; rintro e w' ⟨rfl, rfl⟩)
  go_ret
  exact ⟨rfl, rfl⟩
end Go.Proofs.YtlibofmpnlfelaaGreatDoor
