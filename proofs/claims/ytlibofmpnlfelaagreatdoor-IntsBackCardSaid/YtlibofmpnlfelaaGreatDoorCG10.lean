/- Texts that the claims of this seat share, part 10: YPlain YRef YRTake YLeaf YIter YPut YTake. -/
import Derived.Test.YtlibofmpnlfelaaGreatDoorCG9
/- Runs of bytes (layer 5), as plain mathematics: parts of rows of bytes, laid down and taken. -/

namespace Go.Proofs.YtlibofmpnlfelaaGreatDoor

/-- How many bytes at the front are as the first one: 130 at most. -/
def ysame : List UInt8 → Nat
  | [] => 0
  | x :: l => 1 + min 129 (l.takeWhile (· == x)).length
theorem ysame_cons (x : UInt8) (l : List UInt8) : ysame (x :: l) = 1 + min 129 (l.takeWhile (· == x)).length := rfl
theorem takeWhile_len {α : Type} (p : α → Bool) : ∀ l : List α, (l.takeWhile p).length ≤ l.length
  | [] => by simp
  | x :: l => by
    rw [List.takeWhile_cons]
    split
    · have := takeWhile_len p l; simp; omega
    · simp
theorem ysame_le (l : List UInt8) : ysame l ≤ l.length := by
  cases l with
  | nil => simp [ysame]
  | cons x l => have := takeWhile_len (· == x) l; rw [ysame_cons, List.length_cons]; omega
theorem ysame_130 (l : List UInt8) : ysame l ≤ 130 := by
  cases l with
  | nil => simp [ysame]
  | cons x l => rw [ysame_cons]; omega
theorem ysame_pos {l : List UInt8} (h : l ≠ []) : 1 ≤ ysame l := by
  cases l with
  | nil => exact absurd rfl h
  | cons x l => rw [ysame_cons]; omega
theorem takeWhile_take {α : Type} (p : α → Bool) : ∀ l : List α, ∀ k, k ≤ (l.takeWhile p).length → ∀ y ∈ l.take k, p y = true
  | [], _, _, _, hy => by simp at hy
  | x :: l, k, h, y, hy => by
    rw [List.takeWhile_cons] at h
    split at h
    · rename_i hx
      cases k with
      | zero => simp at hy
      | succ k =>
        simp at h
        rw [List.take_succ_cons, List.mem_cons] at hy
        rcases hy with rfl | hy
        · exact hx
        · exact takeWhile_take p l k h y hy
    · simp at h; subst h; simp at hy
/-- What ysame counts: so many bytes at the front are all x. -/
theorem ysame_take (x : UInt8) (l : List UInt8) : (x :: l).take (ysame (x :: l)) = List.replicate (ysame (x :: l)) x := by
  have h : ∀ y ∈ (x :: l).take (ysame (x :: l)), y = x := by
    intro y hy
    rw [ysame_cons, Nat.add_comm, List.take_succ_cons, List.mem_cons] at hy
    rcases hy with rfl | hy
    · rfl
    · have := takeWhile_take (· == x) l _ (Nat.min_le_right _ _) y hy
      simpa using this
  rw [List.eq_replicate_iff]
  exact ⟨by rw [List.length_take]; have := ysame_le (x :: l); omega, h⟩
/-- How many bytes belong to a list that begins here: up to the next run, or to 128. (k: how many there are already.) -/
def ylist : List UInt8 → Nat → Nat
  | [], k => k
  | x :: l, k => if k < 128 ∧ ysame (x :: l) < 3 then ylist l (k + 1) else k
theorem ylist_ge : ∀ (l : List UInt8) (k : Nat), k ≤ ylist l k
  | [], _ => Nat.le_refl _
  | x :: l, k => by
    rw [ylist]
    split
    · have := ylist_ge l (k + 1); omega
    · exact Nat.le_refl _
theorem ylist_le : ∀ (l : List UInt8) (k : Nat), ylist l k ≤ k + l.length
  | [], _ => by simp [ylist]
  | x :: l, k => by
    rw [ylist]
    split
    · have := ylist_le l (k + 1); simp; omega
    · omega
theorem ylist_128 : ∀ (l : List UInt8) (k : Nat), k ≤ 128 → ylist l k ≤ 128
  | [], _, h => h
  | x :: l, k, h => by
    rw [ylist]
    split
    · exact ylist_128 l (k + 1) (by omega)
    · exact h
theorem ylist_pos {l : List UInt8} (h : l ≠ []) (h3 : ysame l < 3) : 1 ≤ ylist l 0 := by
  cases l with
  | nil => exact absurd rfl h
  | cons x l => rw [ylist, if_pos ⟨by omega, h3⟩]; exact ylist_ge l 1
/-- A row of bytes as parts. (The first number: more rounds than there are bytes.) -/
def yputs : Nat → List UInt8 → List UInt8
  | 0, _ => []
  | _ + 1, [] => []
  | f + 1, x :: l => if 3 ≤ ysame (x :: l) then UInt8.ofNat (ysame (x :: l) - 3) :: x :: yputs f ((x :: l).drop (ysame (x :: l)))
    else UInt8.ofNat (256 - ylist (x :: l) 0) :: ((x :: l).take (ylist (x :: l) 0) ++ yputs f ((x :: l).drop (ylist (x :: l) 0)))
theorem yputs_more : ∀ (f g : Nat) (l : List UInt8), l.length ≤ f → l.length ≤ g → yputs f l = yputs g l
  | 0, 0, _, _, _ => rfl
  | 0, g + 1, l, h, _ => by obtain rfl : l = [] := List.eq_nil_of_length_eq_zero (by omega); rfl
  | f + 1, 0, l, _, h => by obtain rfl : l = [] := List.eq_nil_of_length_eq_zero (by omega); rfl
  | f + 1, g + 1, [], _, _ => rfl
  | f + 1, g + 1, x :: l, h, h' => by
    have h1 := ysame_pos (l := x :: l) (by simp)
    rw [yputs, yputs]
    split
    · rw [yputs_more f g _ (by rw [List.length_drop]; omega) (by rw [List.length_drop]; omega)]
    · rename_i h3
      have h2 := ylist_pos (l := x :: l) (by simp) (by omega)
      rw [yputs_more f g _ (by rw [List.length_drop]; omega) (by rw [List.length_drop]; omega)]
def yput (l : List UInt8) : List UInt8 := yputs l.length l
theorem yput_nil : yput [] = [] := rfl
theorem yput_run (x : UInt8) (l : List UInt8) (h : 3 ≤ ysame (x :: l)) : yput (x :: l) = UInt8.ofNat (ysame (x :: l) - 3) :: x :: yput ((x :: l).drop (ysame (x :: l))) := by
  unfold yput
  rw [List.length_cons, yputs, if_pos h, yputs_more _ _ _ (by rw [List.length_drop, List.length_cons]; omega) (Nat.le_refl _)]
theorem yput_list (x : UInt8) (l : List UInt8) (h : ysame (x :: l) < 3) : yput (x :: l) = UInt8.ofNat (256 - ylist (x :: l) 0) :: ((x :: l).take (ylist (x :: l) 0) ++ yput ((x :: l).drop (ylist (x :: l) 0))) := by
  have h2 := ylist_pos (l := x :: l) (by simp) h
  unfold yput
  rw [List.length_cons, yputs, if_neg (by omega), yputs_more _ _ _ (by rw [List.length_drop, List.length_cons]; omega) (Nat.le_refl _)]
theorem yput_len : ∀ (n : Nat) (l : List UInt8), l.length ≤ n → (yput l).length ≤ 2 * l.length
  | _, [], _ => by simp [yput_nil]
  | 0, x :: l, h => by simp at h
  | n + 1, x :: l, h => by
    have h1 := ysame_pos (l := x :: l) (by simp)
    have h2 := ysame_le (x :: l)
    by_cases h3 : 3 ≤ ysame (x :: l)
    · rw [yput_run x l h3]
      have := yput_len n ((x :: l).drop (ysame (x :: l))) (by rw [List.length_drop]; simp at h ⊢; omega)
      rw [List.length_drop] at this
      simp only [List.length_cons] at *
      omega
    · have h5 := ylist_pos (l := x :: l) (by simp) (by omega)
      have h6 := ylist_le (x :: l) 0
      rw [yput_list x l (by omega)]
      have := yput_len n ((x :: l).drop (ylist (x :: l) 0)) (by rw [List.length_drop]; simp at h ⊢; omega)
      rw [List.length_drop] at this
      rw [List.length_cons, List.length_append, List.length_take]
      simp only [List.length_cons] at *
      omega
/-- So many bytes out of parts, and what stands behind. -/
def ytakes : Nat → Nat → List UInt8 → Option (List UInt8 × List UInt8)
  | _, 0, l => some ([], l)
  | 0, _ + 1, _ => none
  | _ + 1, _ + 1, [] => none
  | f + 1, m + 1, c :: l =>
    if c.toNat < 128 then
      match l with
      | [] => none
      | x :: r => if m + 1 < c.toNat + 3 then none else (ytakes f (m + 1 - (c.toNat + 3)) r).map fun p => (List.replicate (c.toNat + 3) x ++ p.1, p.2)
    else if l.length < 256 - c.toNat then none else if m + 1 < 256 - c.toNat then none else (ytakes f (m + 1 - (256 - c.toNat)) (l.drop (256 - c.toNat))).map fun p => (l.take (256 - c.toNat) ++ p.1, p.2)
theorem ytakes_cons (f m : Nat) (c : UInt8) (l : List UInt8) : ytakes (f + 1) (m + 1) (c :: l) =
    if c.toNat < 128 then
      match l with
      | [] => none
      | x :: r => if m + 1 < c.toNat + 3 then none else (ytakes f (m + 1 - (c.toNat + 3)) r).map fun p => (List.replicate (c.toNat + 3) x ++ p.1, p.2)
    else if l.length < 256 - c.toNat then none else if m + 1 < 256 - c.toNat then none else (ytakes f (m + 1 - (256 - c.toNat)) (l.drop (256 - c.toNat))).map fun p => (l.take (256 - c.toNat) ++ p.1, p.2) := rfl
theorem ytakes_more : ∀ (f g m : Nat) (l : List UInt8), l.length ≤ f → l.length ≤ g → ytakes f m l = ytakes g m l
  | 0, 0, _, _, _, _ => rfl
  | _, _, 0, _, _, _ => by simp [ytakes]
  | 0, g + 1, m + 1, l, h, _ => by obtain rfl : l = [] := List.eq_nil_of_length_eq_zero (by omega); rfl
  | f + 1, 0, m + 1, l, _, h => by obtain rfl : l = [] := List.eq_nil_of_length_eq_zero (by omega); rfl
  | f + 1, g + 1, m + 1, [], _, _ => rfl
  | f + 1, g + 1, m + 1, c :: l, h, h' => by
    have hc := c.toNat_lt
    simp only [List.length_cons] at h h'
    rw [ytakes_cons, ytakes_cons]
    split
    · cases l with
      | nil => rfl
      | cons x r => simp only [List.length_cons] at h h'; simp only []; rw [ytakes_more f g _ r (by omega) (by omega)]
    · rw [ytakes_more f g _ (l.drop (256 - c.toNat)) (by rw [List.length_drop]; omega) (by rw [List.length_drop]; omega)]
def ytake (m : Nat) (l : List UInt8) : Option (List UInt8 × List UInt8) := ytakes l.length m l
theorem ytake_zero (l : List UInt8) : ytake 0 l = some ([], l) := by unfold ytake; cases l.length <;> rfl
theorem ytake_none {m : Nat} (h : 0 < m) : ytake m [] = none := by
  obtain ⟨k, rfl⟩ : ∃ k, m = k + 1 := ⟨m - 1, by omega⟩
  rfl
theorem ytake_one {m : Nat} (h : 0 < m) (c : UInt8) : ytake m [c] = none := by
  obtain ⟨k, rfl⟩ : ∃ k, m = k + 1 := ⟨m - 1, by omega⟩
  have hc := c.toNat_lt
  unfold ytake
  rw [show [c].length = 1 from rfl, ytakes_cons]
  split
  · rfl
  · rw [if_pos (by simp; omega)]
theorem ytake_run {m : Nat} (h : 0 < m) {c : UInt8} (hc : c.toNat < 128) (x : UInt8) (r : List UInt8) :
    ytake m (c :: x :: r) = if m < c.toNat + 3 then none else (ytake (m - (c.toNat + 3)) r).map fun p => (List.replicate (c.toNat + 3) x ++ p.1, p.2) := by
  obtain ⟨k, rfl⟩ : ∃ k, m = k + 1 := ⟨m - 1, by omega⟩
  unfold ytake
  rw [List.length_cons, ytakes_cons, if_pos hc]
  simp only []
  rw [ytakes_more _ r.length _ r (by simp) (Nat.le_refl _)]
theorem ytake_list {m : Nat} (h : 0 < m) {c : UInt8} (hc : ¬ c.toNat < 128) (l : List UInt8) :
    ytake m (c :: l) = if l.length < 256 - c.toNat then none else if m < 256 - c.toNat then none else (ytake (m - (256 - c.toNat)) (l.drop (256 - c.toNat))).map fun p => (l.take (256 - c.toNat) ++ p.1, p.2) := by
  obtain ⟨k, rfl⟩ : ∃ k, m = k + 1 := ⟨m - 1, by omega⟩
  have := c.toNat_lt
  unfold ytake
  rw [List.length_cons, ytakes_cons, if_neg hc]
  rw [ytakes_more _ (l.drop (256 - c.toNat)).length _ _ (by rw [List.length_drop]; omega) (Nat.le_refl _)]
theorem ytakes_len : ∀ (f m : Nat) (l x r : List UInt8), ytakes f m l = some (x, r) → x.length = m ∧ r.length ≤ l.length
  | _, 0, l, x, r, h => by
    have : ytakes ‹Nat› 0 l = some ([], l) := by cases ‹Nat› <;> rfl
    rw [this] at h
    injection h with h
    injection h with h1 h2
    subst h1 h2
    simp
  | 0, m + 1, l, x, r, h => by cases l <;> cases h
  | f + 1, m + 1, [], x, r, h => by cases h
  | f + 1, m + 1, c :: l, x, r, h => by
    have hc := c.toNat_lt
    rw [ytakes_cons] at h
    by_cases h1 : c.toNat < 128
    · rw [if_pos h1] at h
      cases l with
      | nil => cases h
      | cons y l =>
        simp only [] at h
        by_cases h2 : m + 1 < c.toNat + 3
        · rw [if_pos h2] at h; cases h
        · rw [if_neg h2] at h
          obtain ⟨⟨x', r'⟩, h3, h4⟩ := Option.map_eq_some_iff.1 h
          obtain ⟨e1, e2⟩ := ytakes_len f _ l x' r' h3
          injection h4 with h4 h5
          subst h4 h5
          simp only [List.length_append, List.length_replicate, List.length_cons]
          omega
    · rw [if_neg h1] at h
      by_cases h0 : l.length < 256 - c.toNat
      · rw [if_pos h0] at h; cases h
      · rw [if_neg h0] at h
        by_cases h2 : m + 1 < 256 - c.toNat
        · rw [if_pos h2] at h; cases h
        · rw [if_neg h2] at h
          obtain ⟨⟨x', r'⟩, h3, h4⟩ := Option.map_eq_some_iff.1 h
          obtain ⟨e1, e2⟩ := ytakes_len f _ _ x' r' h3
          injection h4 with h4 h5
          subst h4 h5
          rw [List.length_drop] at e2
          simp only [List.length_append, List.length_take, List.length_cons]
          omega
theorem ytake_len {m : Nat} {l x r : List UInt8} (h : ytake m l = some (x, r)) : x.length = m ∧ r.length ≤ l.length := ytakes_len _ _ _ _ _ h
/-- P5.3: what was laid down is taken as it was, and what stands behind goes on. -/
theorem ytake_yput : ∀ (n : Nat) (l b : List UInt8) (j : Nat), l.length ≤ n → ytake (l.length + j) (yput l ++ b) = (ytake j b).map fun p => (l ++ p.1, p.2)
  | _, [], b, j, _ => by simp [yput_nil]
  | 0, x :: l, b, _, h => by simp at h
  | n + 1, x :: l, b, j, h => by
    have h1 := ysame_pos (l := x :: l) (by simp)
    have h2 := ysame_le (x :: l)
    have h4 := ysame_130 (x :: l)
    have h0 : 0 < (x :: l).length + j := by simp; omega
    by_cases h3 : 3 ≤ ysame (x :: l)
    · rw [yput_run x l h3, List.cons_append, List.cons_append]
      have hc : (UInt8.ofNat (ysame (x :: l) - 3)).toNat = ysame (x :: l) - 3 := by rw [UInt8.toNat_ofNat']; omega
      rw [ytake_run h0 (by rw [hc]; omega), hc, if_neg (by omega), show ysame (x :: l) - 3 + 3 = ysame (x :: l) by omega]
      have hl : (x :: l).length + j - ysame (x :: l) = ((x :: l).drop (ysame (x :: l))).length + j := by rw [List.length_drop]; omega
      rw [hl, ytake_yput n _ b j (by rw [List.length_drop, List.length_cons]; simp at h; omega), Option.map_map]
      congr 1
      funext p
      simp only [Function.comp]
      rw [← List.append_assoc, ← ysame_take, List.take_append_drop]
    · have h5 := ylist_pos (l := x :: l) (by simp) (by omega)
      have h6 := ylist_le (x :: l) 0
      have h7 := ylist_128 (x :: l) 0 (by omega)
      rw [yput_list x l (by omega), List.cons_append]
      have hc : (UInt8.ofNat (256 - ylist (x :: l) 0)).toNat = 256 - ylist (x :: l) 0 := by rw [UInt8.toNat_ofNat']; omega
      have hk : 256 - (256 - ylist (x :: l) 0) = ylist (x :: l) 0 := by omega
      have ht : ((x :: l).take (ylist (x :: l) 0)).length = ylist (x :: l) 0 := by rw [List.length_take]; omega
      rw [ytake_list h0 (by rw [hc]; omega), hc, hk, if_neg (by rw [List.length_append, List.length_append, ht]; omega), if_neg (by omega)]
      rw [List.append_assoc, List.drop_append_of_le_length (by omega), List.take_append_of_le_length (by omega)]
      rw [List.drop_of_length_le (by omega), List.nil_append, List.take_of_length_le (by omega)]
      have hl : (x :: l).length + j - ylist (x :: l) 0 = ((x :: l).drop (ylist (x :: l) 0)).length + j := by rw [List.length_drop]; omega
      rw [hl, ytake_yput n _ b j (by rw [List.length_drop, List.length_cons]; simp at h; omega), Option.map_map]
      congr 1
      funext p
      simp only [Function.comp]
      rw [← List.append_assoc, List.take_append_drop]
theorem ytake_back (l b : List UInt8) : ytake l.length (yput l ++ b) = some (l, b) := by
  have := ytake_yput _ l b 0 (Nat.le_refl _)
  rw [ytake_zero] at this
  simpa using this
end Go.Proofs.YtlibofmpnlfelaaGreatDoor

/- Contracts of layer 5's reference: same, Put, Take. -/





namespace Go.Proofs.YtlibofmpnlfelaaGreatDoor

open Go.RowKit

theorem takeWhile_at {α : Type} (p : α → Bool) : ∀ (l : List α) (j : Nat) (h : j < l.length), j ≤ (l.takeWhile p).length → (j < (l.takeWhile p).length ↔ p l[j] = true)
  | x :: l, 0, _, _ => by
    rw [List.takeWhile_cons]
    cases hx : p x <;> simp [hx]
  | x :: l, j + 1, h, hj => by
    rw [List.takeWhile_cons] at hj ⊢
    cases hx : p x with
    | false => rw [hx] at hj; simp at hj
    | true =>
      rw [hx] at hj
      simp only [if_true, List.length_cons] at hj ⊢
      have := takeWhile_at p l j (by simpa using h) (by omega)
      rw [List.getElem_cons_succ, ← this]
      omega
/-- Of bytes from a place on: what is known when k of them are as the first, and how it goes on. -/
theorem ysame_step {l : List UInt8} {a k : Nat} (ha : a < l.length) (hk : 1 ≤ k) (h : k ≤ ysame (l.drop a)) :
    (a + k = l.length → ysame (l.drop a) = k) ∧ (k = 130 → ysame (l.drop a) = k) ∧ (∀ h' : a + k < l.length, k < 130 → (l[a + k] = l[a] → k + 1 ≤ ysame (l.drop a)) ∧ (l[a + k] ≠ l[a] → ysame (l.drop a) = k)) := by
  rw [List.drop_eq_getElem_cons ha, ysame_cons] at h ⊢
  have hT := takeWhile_len (· == l[a]) (l.drop (a + 1))
  rw [List.length_drop] at hT
  refine ⟨fun h1 => by omega, fun h1 => by omega, fun h' h130 => ?_⟩
  have h2 := takeWhile_at (· == l[a]) (l.drop (a + 1)) (k - 1) (by rw [List.length_drop]; omega) (by omega)
  have h3 : (l.drop (a + 1))[k - 1]'(by rw [List.length_drop]; omega) = l[a + k] := by
    rw [List.getElem_drop]
    congr 1
    omega
  rw [h3, beq_iff_eq] at h2
  exact ⟨fun h4 => by have := h2.2 h4; omega, fun h4 => by have h5 := fun h5 => h4 (h2.1 h5); have h6 := Nat.le_of_not_lt h5; omega⟩

/-- What Put answers. -/
def yputE (l : List UInt8) : List UInt8 × Int := if l.length ≤ 4096 then (yput l, 0) else ([], 3)
theorem drop_at {l : List UInt8} {a : Nat} (h : a < l.length) : l.drop a = l[a] :: l.drop (a + 1) := List.drop_eq_getElem_cons h
theorem yput_run_at {l : List UInt8} {a : Nat} (h : a < l.length) (h3 : 3 ≤ ysame (l.drop a)) : yput (l.drop a) = [UInt8.ofNat (ysame (l.drop a) - 3), l[a]] ++ yput (l.drop (a + ysame (l.drop a))) := by
  rw [← List.drop_drop]
  conv => lhs; rw [drop_at h, yput_run _ _ (by rw [← drop_at h]; exact h3), ← drop_at h]
  rfl
theorem yput_list_at {l : List UInt8} {a : Nat} (h : a < l.length) (h3 : ysame (l.drop a) < 3) : yput (l.drop a) = (UInt8.ofNat (256 - ylist (l.drop a) 0) :: (l.drop a).take (ylist (l.drop a) 0)) ++ yput (l.drop (a + ylist (l.drop a) 0)) := by
  rw [← List.drop_drop]
  conv => lhs; rw [drop_at h, yput_list _ _ (by rw [← drop_at h]; exact h3), ← drop_at h]
  rfl
theorem ylist_at {l : List UInt8} {b k : Nat} (h : b < l.length) : ylist (l.drop b) k = if k < 128 ∧ ysame (l.drop b) < 3 then ylist (l.drop (b + 1)) (k + 1) else k := by
  rw [drop_at h, ylist]
end Go.Proofs.YtlibofmpnlfelaaGreatDoor

/- The contract of layer 5's reference's Take. -/



namespace Go.Proofs.YtlibofmpnlfelaaGreatDoor

open Go.RowKit

/-- Two rows of bytes and an error that a call answers. -/
def RetBB (w : World) (p : List UInt8 × List UInt8 × Int) (e : Ending) (w' : World) : Prop :=
  ∃ u v, e = .returned (.tuple #[u, v, .int .i64 p.2.2]) ∧ IsB p.1 u w' ∧ IsB p.2.1 v w' ∧ Below w.heap.size w w'
theorem RetBB.nil {w w' : World} (n : Int) (hb : Below w.heap.size w w') : RetBB w ([], [], n) (.returned (.tuple #[.slice none 0 0, .slice none 0 0, .int .i64 n])) w' := ⟨_, _, rfl, isB_nil _, isB_nil _, hb⟩
/-- What Take answers. -/
def ytakeE (l : List UInt8) (many : Int) : List UInt8 × List UInt8 × Int :=
  if many < 0 ∨ 4096 < many then ([], [], 1) else match ytake many.toNat l with | some p => (p.1, p.2, 0) | none => ([], [], 2)
theorem ytakeE_arg {l : List UInt8} {many : Int} (h : many < 0 ∨ 4096 < many) : ytakeE l many = ([], [], 1) := by unfold ytakeE; rw [if_pos h]
theorem ytakeE_some {l : List UInt8} {M : Nat} (h : M ≤ 4096) {p q : List UInt8} (hp : ytake M l = some (p, q)) : ytakeE l M = (p, q, 0) := by unfold ytakeE; rw [if_neg (by omega), Int.toNat_natCast, hp]
theorem ytakeE_none {l : List UInt8} {M : Nat} (h : M ≤ 4096) (hp : ytake M l = none) : ytakeE l M = ([], [], 2) := by unfold ytakeE; rw [if_neg (by omega), Int.toNat_natCast, hp]
/-- Some parts are taken: what is still to come. -/
def YLeft (l : List UInt8) (M a : Nat) (m : List UInt8) : Prop :=
  (m.length ≤ M ∧ ytake M l = (ytake (M - m.length) (l.drop a)).map fun p => (m ++ p.1, p.2)) ∨ (M < m.length ∧ ytake M l = none)
theorem YLeft.start (l : List UInt8) (M : Nat) : YLeft l M 0 [] := .inl ⟨by simp, by simp⟩
theorem YLeft.run {l m : List UInt8} {M a c : Nat} (h : YLeft l M a m) (hm : m.length < M) (ha : a + 1 < l.length) (hc : c = l[a].toNat) (h128 : c < 128) : YLeft l M (a + 2) (m ++ List.replicate (c + 3) l[a + 1]) := by
  rcases h with ⟨_, h⟩ | ⟨h, _⟩
  · rw [drop_at (show a < l.length by omega), drop_at ha, ytake_run (by omega) (by omega), ← hc] at h
    by_cases hM : M - m.length < c + 3
    · rw [if_pos hM] at h
      exact .inr ⟨by rw [List.length_append, List.length_replicate]; omega, h⟩
    · rw [if_neg hM] at h
      refine .inl ⟨by rw [List.length_append, List.length_replicate]; omega, ?_⟩
      rw [h, Option.map_map, List.length_append, List.length_replicate, show M - (m.length + (c + 3)) = M - m.length - (c + 3) by omega]
      congr 1
      funext p
      simp
  · omega
theorem YLeft.list {l m : List UInt8} {M a k : Nat} (h : YLeft l M a m) (hm : m.length < M) (ha : a < l.length) (hk : k = 256 - l[a].toNat) (h128 : ¬ l[a].toNat < 128) (hl : k ≤ l.length - (a + 1)) : YLeft l M (a + 1 + k) (m ++ (l.drop (a + 1)).take k) := by
  have hlen : ((l.drop (a + 1)).take k).length = k := by rw [List.length_take, List.length_drop]; omega
  rcases h with ⟨_, h⟩ | ⟨h, _⟩
  · rw [drop_at ha, ytake_list (by omega) h128, ← hk, if_neg (by rw [List.length_drop]; omega)] at h
    by_cases hM : M - m.length < k
    · rw [if_pos hM] at h
      exact .inr ⟨by rw [List.length_append, hlen]; omega, h⟩
    · rw [if_neg hM] at h
      refine .inl ⟨by rw [List.length_append, hlen]; omega, ?_⟩
      rw [h, Option.map_map, List.length_append, hlen, List.drop_drop, show M - (m.length + k) = M - m.length - k by omega]
      congr 1
      funext p
      simp
  · omega
theorem YLeft.short {l m : List UInt8} {M a : Nat} (h : YLeft l M a m) (hm : m.length < M) (ha : l.length - a < 2) : ytake M l = none := by
  rcases h with ⟨_, h⟩ | ⟨h, _⟩
  · rw [h]
    by_cases h1 : a < l.length
    · rw [drop_at h1, List.drop_of_length_le (by omega), ytake_one (by omega)]; rfl
    · rw [List.drop_of_length_le (by omega), ytake_none (by omega)]; rfl
  · omega
theorem YLeft.cut {l m : List UInt8} {M a k : Nat} (h : YLeft l M a m) (hm : m.length < M) (ha : a < l.length) (hk : k = 256 - l[a].toNat) (h128 : ¬ l[a].toNat < 128) (hl : l.length - (a + 1) < k) : ytake M l = none := by
  rcases h with ⟨_, h⟩ | ⟨h, _⟩
  · rw [h, drop_at ha, ytake_list (by omega) h128, ← hk, if_pos (by rw [List.length_drop]; omega)]; rfl
  · omega
theorem YLeft.done {l m : List UInt8} {a : Nat} (h : YLeft l m.length a m) : ytake m.length l = some (m, l.drop a) := by
  rcases h with ⟨_, h⟩ | ⟨h, _⟩
  · rw [h, Nat.sub_self, ytake_zero]; simp
  · omega
theorem YLeft.over {l m : List UInt8} {M a : Nat} (h : YLeft l M a m) (hm : M < m.length) : ytake M l = none := by
  rcases h with ⟨h1, _⟩ | ⟨_, h⟩
  · omega
  · exact h

end Go.Proofs.YtlibofmpnlfelaaGreatDoor

/- Contracts of byterle's small functions: repeats, first, standing, and a part's head and size. -/





namespace Go.Proofs.YtlibofmpnlfelaaGreatDoor

open Go.RowKit

theorem ysame_step0 {l : List UInt8} {k : Nat} (ha : 0 < l.length) (hk : 1 ≤ k) (h : k ≤ ysame l) :
    (k = l.length → ysame l = k) ∧ (k = 130 → ysame l = k) ∧ (∀ h' : k < l.length, k < 130 → (l[k] = l[0] → k + 1 ≤ ysame l) ∧ (l[k] ≠ l[0] → ysame l = k)) := by
  have := ysame_step (l := l) (a := 0) ha hk (by simpa using h)
  simpa using this

def RepRel (l : List UInt8) (w : World) (v : Value) (wr : World) : Prop := ∃ k q : Nat, v = .int .i64 (k : Int) ∧ 1 ≤ k ∧ k ≤ ysame l ∧ wr = w.drewN q
def RepPost (l : List UInt8) (w : World) (e : Ending) (w' : World) : Prop := e = .returned (.int .i64 (ysame l : Int)) ∧ ∃ q, w' = w.drewN q
set_option maxHeartbeats 1000000 in
set_option maxRecDepth 100000 in
theorem repeats_any (A : Option Addr) (n c : Nat) (l : List UInt8) (w : World) (hn : l.length = n) (hb : n ≤ 1000000) (h0 : 0 < n) (hl : Lies w A (l.map bv)) :
    Calls Tryz.prog 131 #[.slice A n c] w (RepPost l w) := by
  have hal : 0 < l.length := by omega
  obtain ⟨ad, rfl, _, hcell⟩ := hl.cell (k := 0) (by rw [List.length_map]; exact hal)
  have HL := Lib.hid hl
  obtain ⟨x, hx⟩ : ∃ x : Nat, x = l[0].toNat := ⟨_, rfl⟩
  have hcx : ∀ q, (w.drewN q).cell? ad = some (.int .u8 (x : Int)) := fun q => by
    have e : ad.add 0 = ad := by simp [Addr.add]
    rw [e] at hcell
    show w.cell? _ = _
    rw [hcell, List.getElem_map, hx]; rfl
  have HC := Lib.hid hcx
  have HX := Lib.hid hx
  have HN := Lib.hid hn
  have hpos : 1 ≤ ysame l := ysame_pos (by intro h; rw [h] at hal; simp at hal)
  have hsl := ysame_le l
  rw [hn] at hsl
  have hs130 := ysame_130 l
  obtain ⟨m, hm⟩ : ∃ m, m = min n 130 := ⟨_, rfl⟩
  have hmin : ∀ (ts : Array TypeId) (t : TypeId) (W : World), (Builtin.min_ ts t #[.int .i64 (n : Int), .int .i64 130]).run Tryz.prog W = .ok (.int .i64 (m : Int)) W := fun ts t W => by
    rw [run_min_int2]
    congr 2
    split <;> omega
  have HM := Lib.hid hm
  clear hn hl hcell hx hcx hm
  go_enter Tryz.func131, Tryz.ntmps131
  go_wp2
  go_loopw [3] (RepRel l w) (fun v _ => 131 - (intOf v).toNat)
  case atStart => exact ⟨1, 0, rfl, Nat.le_refl _, hpos, rfl⟩
  case round =>
    obtain ⟨k, q0, rfl, hk1, hk, hw⟩ := hrel
    have HW := Lib.hid hw
    clear hw
    have hst := ysame_step0 (l := l) (k := k) hal hk1 hk
    have HST := Lib.hid hst
    have hcx : wr.cell? ad = some (.int .u8 (x : Int)) := by rw [HW.out]; exact HC.out q0
    clear hst hpos
    by_cases h1 : k < m
    · have d1 : decide (k < m) = true := decide_eq_true h1
      have h1n : (k : Int) < (n : Int) := by have := HM.out; omega
      have h0n : (0 : Int) < (n : Int) := by omega
      have h130 : k < 130 := by have := HM.out; omega
      have hkl : k < l.length := by have := HN.out; have := HM.out; omega
      obtain ⟨_, had, _, hcell⟩ := HL.out.cell (k := k) (by rw [List.length_map]; exact hkl)
      injection had with had
      subst had
      obtain ⟨y, hy⟩ : ∃ y : Nat, y = l[k].toNat := ⟨_, rfl⟩
      have hcy : wr.cell? (ad.add k) = some (.int .u8 (y : Int)) := by
        rw [HW.out]
        show w.cell? _ = _
        rw [hcell, List.getElem_map, hy]; rfl
      have HY := Lib.hid hy
      clear hy hcell
      by_cases hxy : y = x
      · subst hxy
        have d3 : ((y : Int) == (y : Int)) = true := by simp
        have hnext : k + 1 ≤ ysame l := by
          have h3 := (HST.out.2.2 hkl h130).1
          refine h3 (UInt8.toNat_inj.1 ?_)
          rw [← HX.out, ← HY.out]
        go_wp2
        go_quiet (fail)
        go_wp2
        go_roundw
        case rel => exact ⟨k + 1, _, by go_num, by omega, hnext, by rw [HW.out]; exact World.drewN_drewN _ _ _⟩
        case measure => simp [intOf]; omega
      · have d3 : ((y : Int) == (x : Int)) = false := by simpa using (fun h => hxy (by omega))
        have hend : ysame l = k := by
          have h3 := (HST.out.2.2 hkl h130).2
          refine h3 fun h => hxy ?_
          rw [HX.out, HY.out, h]
        have HE := Lib.hid hend
        clear hend
        go_wp2
        go_quiet (fail)
        go_wp2
        go_ret
        exact ⟨ret_int (by rw [HE.out]), _, by rw [HW.out]; exact World.drewN_drewN _ _ _⟩
    · have d1 : decide (k < m) = false := decide_eq_false h1
      have HE : Hid (ysame l = k) := Lib.hid (by
        have := HM.out
        have := HN.out
        by_cases h2 : k = 130
        · exact HST.out.2.1 h2
        · exact HST.out.1 (by omega))
      go_wp2
      go_quiet (fail)
      go_wp2
      go_ret
      exact ⟨ret_int (by rw [HE.out]), _, by rw [HW.out]; exact World.drewN_drewN _ _ _⟩

/-- A part's first byte. -/
def phead (n t : Nat) : Nat := if 3 ≤ t then t - 3 else 256 - n
set_option maxHeartbeats 1000000 in
set_option maxRecDepth 100000 in
theorem head_any (A : Option Addr) (n c t : Nat) (w : World) (hn : 1 ≤ n) (hn2 : n ≤ 256) (ht : t ≤ 200) :
    Calls Tryz.prog 87 #[.agg #[.slice A n c, .int .i64 (t : Int)]] w (fun e w' => e = .returned (.int .u8 (phead n t : Int)) ∧ Below w.heap.size w w') := by
  by_cases h3 : 3 ≤ t
  · obtain ⟨s, hs⟩ : ∃ s, s = t - 3 := ⟨_, rfl⟩
    have hp : phead n t = s := by unfold phead; rw [if_pos h3]; omega
    have hsw : (t : Int) - 3 = (s : Int) := by omega
    have hsu : IntKind.u8.wrap (s : Int) = (s : Int) := by rw [IntKind.wrap_u8]; omega
    have HP := Lib.hid hp
    clear hp hs
    go_enter Tryz.func87, Tryz.ntmps87
    go_wp2
    go_ret
    exact ⟨ret_int (by rw [HP.out]), (Below.refl _ _).alloc (Nat.le_refl _) _⟩
  · obtain ⟨s, hs⟩ : ∃ s, s = 256 - n := ⟨_, rfl⟩
    have hp : phead n t = s := by unfold phead; rw [if_neg h3]; omega
    have hsw : 256 - (n : Int) = (s : Int) := by omega
    have hsu : IntKind.u8.wrap (s : Int) = (s : Int) := by rw [IntKind.wrap_u8]; omega
    have d0 : decide ((3 : Int) ≤ (t : Int)) = false := decide_eq_false (by omega)
    have HP := Lib.hid hp
    clear hp hs
    go_enter Tryz.func87, Tryz.ntmps87
    go_wp2
    go_ret
    exact ⟨ret_int (by rw [HP.out]), (Below.refl _ _).alloc (Nat.le_refl _) _⟩
set_option maxHeartbeats 1000000 in
set_option maxRecDepth 100000 in
theorem ysize_any (A : Option Addr) (n c : Nat) (t : Value) (w : World) (hn : n ≤ 1000) :
    Calls Tryz.prog 105 #[.agg #[.slice A n c, t]] w (fun e w' => e = .returned (.int .i64 ((1 + n : Nat) : Int)) ∧ Below w.heap.size w w') := by
  go_enter Tryz.func105, Tryz.ntmps105
  go_wp2
  go_ret
  exact ⟨ret_int (by go_num), (Below.refl _ _).alloc (Nat.le_refl _) _⟩

/-- The part that bytes begin with when they are laid down: how many bytes, how often. -/
def plen (l : List UInt8) : Nat := if 3 ≤ ysame l then 1 else ylist l 0
def ptimes (l : List UInt8) : Nat := if 3 ≤ ysame l then ysame l else 1
/-- The function's own result, in a block of its own, below which nothing turns. -/
def FirstPost (A : Option Addr) (l : List UInt8) (c : Nat) (w : World) (e : Ending) (w' : World) : Prop :=
  e = .returned (.agg #[.slice A (plen l) c, .int .i64 (ptimes l : Int)]) ∧ Below w.heap.size w w'
def FirstRel (l : List UInt8) (w0 : World) (v : Value) (wr : World) : Prop := ∃ k : Nat, v = .int .i64 (k : Int) ∧ 1 ≤ k ∧ k ≤ 128 ∧ k ≤ l.length ∧ ylist (l.drop k) k = ylist l 0 ∧ ∃ q, wr = w0.drewN q
theorem ylist_end {l : List UInt8} {k : Nat} (h : k = l.length) : ylist (l.drop k) k = k := by
  subst h
  rw [List.drop_length, ylist]
set_option maxHeartbeats 4000000 in
set_option maxRecDepth 100000 in
theorem first_any (A : Option Addr) (n c : Nat) (l : List UInt8) (w : World) (hn : l.length = n) (hb : n ≤ 1000000) (h0 : 0 < n) (hnc : n ≤ c) (hcm : c ≤ maxLen) (hl : Lies w A (l.map bv)) :
    Calls Tryz.prog 115 #[.slice A n c] w (FirstPost A l c w) := by
  have hci : (c : Int) ≤ 9223372036854775807 := by unfold maxLen at hcm; omega
  have hal : 0 < l.length := by omega
  obtain ⟨ad, hAd, _, _⟩ := hl.cell (k := 0) (by rw [List.length_map]; exact hal)
  have HR := Lib.hid fun (W : World) (h : Lies W A (l.map bv)) => repeats_any A n c l W hn hb h0 h
  have HD := Lib.hid fun (k : Nat) (W : World) (hk : k < n) (h : Lies W (A.map (·.add k)) ((l.drop k).map bv)) => repeats_any (A.map (·.add k)) (n - k) (c - k) (l.drop k) W (by rw [List.length_drop]; omega) (by omega) (by omega) h
  have HP := Lib.hid fun (k : Nat) (W : World) (hk : k < n) (h : Lies W A (l.map bv)) => (show Lies W (A.map (·.add k)) ((l.drop k).map bv) by
    have := h.drop (k := k) (cap := c) (by rw [List.length_map]; omega)
    rw [if_neg (by omega)] at this
    rw [List.map_drop]; exact this)
  have HN := Lib.hid hn
  have HL := Lib.hid hl
  obtain ⟨s, hs⟩ : ∃ s, s = ysame l := ⟨_, rfl⟩
  have HS := Lib.hid hs
  have hb1 : Below w.heap.size w (w.alloc (.cells #[.slice none 0 0, .int .i64 0] 110)) := (Below.refl _ _).alloc (Nat.le_refl _) _
  have hl1 := hl.below hb1
  have HB1 := Lib.hid hb1
  have hcall := HR.out _ hl1
  have HCL := Lib.hid hcall
  have HL1 := Lib.hid hl1
  clear hn hl hs hb1 hl1 hcall hAd
  go_enter Tryz.func115, Tryz.ntmps115
  go_wp2_with fail
  refine HCL.out.mono ?_
  rintro e w1 ⟨rfl, q1, hw1⟩
  rw [← HS.out]
  have hr1 : Row w1 w.heap.size 110 [.slice none 0 0, .int .i64 0] := by rw [hw1]; exact heap_alloc_new w _
  have hl2 : Lies w1 A (l.map bv) := by rw [hw1]; exact HL1.out
  have hb2 : Below w.heap.size w w1 := by rw [hw1]; exact below_drewN HB1.out _
  clear hw1
  by_cases h3 : 3 ≤ s
  · have HB2 := Lib.hid hb2
    have HL2 := Lib.hid hl2
    have hc0 := hr1.cell 0
    have hc1 := hr1.cell 1
    have hf0 := hr1.free 0
    have hf1 := hr1.free 1
    simp only [List.getElem?_cons_zero, List.getElem?_cons_succ] at hc0 hc1
    have HR1 := Lib.hid hr1
    clear hb2 hl2 hr1
    have HE := Lib.hid (show plen l = 1 ∧ ptimes l = s by unfold plen ptimes; rw [← HS.out, if_pos h3, if_pos h3]; exact ⟨rfl, rfl⟩)
    go_wp2
    have hr2 : Row ((w1.setCell ⟨w.heap.size, 0, none⟩ (.slice A 1 c)).setCell ⟨w.heap.size, 1, none⟩ (.int .i64 (s : Int))) w.heap.size 110 [.slice A 1 c, .int .i64 (s : Int)] := (HR1.out.set_ 0 _).set_ 1 _
    refine bodyPost_ret (results_cell_row rfl _ _ _ _ _ _ _ rfl hr2 Tryz.underlying110 rfl (by kernel_rfl)) rfl ⟨?_, (HB2.out.setCell (Nat.le_refl _) _).setCell (Nat.le_refl _) _⟩
    rw [HE.out.1, HE.out.2]
  · have d0 : decide ((3 : Int) ≤ (s : Int)) = false := decide_eq_false (by omega)
    obtain ⟨m, hm⟩ : ∃ m, m = min n 128 := ⟨_, rfl⟩
    have hmin : ∀ (ts : Array TypeId) (t : TypeId) (W : World), (Builtin.min_ ts t #[.int .i64 (n : Int), .int .i64 128]).run Tryz.prog W = .ok (.int .i64 (m : Int)) W := fun ts t W => by
      rw [run_min_int2]
      congr 2
      split <;> omega
    have hmn : m ≤ n := by omega
    have HM := Lib.hid hm
    have hr1' : FirstRel l w1 (.int .i64 1) w1 := by
      refine ⟨1, rfl, Nat.le_refl _, by omega, by omega, ?_, 0, rfl⟩
      cases l with
      | nil => simp at hal
      | cons x l => rw [ylist, if_pos ⟨by omega, by have := HS.out; omega⟩]; rfl
    have HB2 := Lib.hid hb2
    have HL2 := Lib.hid hl2
    have HR1 := Lib.hid hr1
    have HE := Lib.hid (show plen l = ylist l 0 ∧ ptimes l = 1 by unfold plen ptimes; rw [← HS.out, if_neg h3, if_neg h3]; exact ⟨rfl, rfl⟩)
    clear hb2 hl2 hr1 hm
    go_wp2
    go_loopw [4] (FirstRel l w1) (fun v _ => 129 - (intOf v).toNat)
    case atStart => exact hr1'
    case round =>
      obtain ⟨k, rfl, hk1, hk128, hkl, hyl, q, hw⟩ := hrel
      have HY := Lib.hid hyl
      have hlr : Lies wr A (l.map bv) := by rw [hw]; exact HL2.out
      have HW := Lib.hid hw
      clear hyl hr1' hw
      by_cases h1 : k < m
      · have d1 : decide (k < m) = true := decide_eq_true h1
        have h1n : k < n := by omega
        have h1i : (k : Int) ≤ (n : Int) := by omega
        have h1c : (k : Int) ≤ (c : Int) := by omega
        have hkc : ¬ c = k := by omega
        have hcall := HD.out k wr h1n (HP.out k wr h1n hlr)
        obtain ⟨T, hT⟩ : ∃ T, T = ysame (l.drop k) := ⟨_, rfl⟩
        have HT := Lib.hid hT
        have HC := Lib.hid hcall
        clear hlr hcall hT
        by_cases h5 : T < 3
        · have d3 : decide ((T : Int) < 3) = true := decide_eq_true (by omega)
          have HS2 := Lib.hid (show ylist (l.drop (k + 1)) (k + 1) = ylist l 0 by
            have h6 := HY.out
            rw [ylist_at (by have := HN.out; omega), if_pos ⟨by have := HM.out; omega, by rw [← HT.out]; exact h5⟩] at h6
            exact h6)
          go_wp2_with fail
          refine HC.out.mono ?_
          rintro e w2 ⟨rfl, q2, hw2⟩
          rw [← HT.out]
          have HW2 := Lib.hid hw2
          clear hw2
          go_wp2
          go_roundw
          case rel => exact ⟨k + 1, by go_num, by omega, by have := HM.out; omega, by have := HN.out; omega, HS2.out, q + q2, by rw [HW2.out, HW.out]; exact World.drewN_drewN _ _ _⟩
          case measure => simp [intOf]; omega
        · have d3 : decide ((T : Int) < 3) = false := decide_eq_false (by omega)
          have HS2 := Lib.hid (show plen l = k by
            have h6 := HY.out
            rw [ylist_at (by have := HN.out; omega), if_neg (by rw [← HT.out]; omega)] at h6
            rw [HE.out.1, ← h6])
          go_wp2_with fail
          refine HC.out.mono ?_
          rintro e w2 ⟨rfl, q2, hw2⟩
          rw [← HT.out]
          have hr2 : Row w2 w.heap.size 110 [.slice none 0 0, .int .i64 0] := by rw [hw2, HW.out]; exact HR1.out
          have hc0 := hr2.cell 0
          have hc1 := hr2.cell 1
          have hf0 := hr2.free 0
          have hf1 := hr2.free 1
          simp only [List.getElem?_cons_zero, List.getElem?_cons_succ] at hc0 hc1
          have HR2 := Lib.hid hr2
          have HB3 := Lib.hid (show Below w.heap.size w w2 by rw [hw2, HW.out]; exact below_drewN (below_drewN HB2.out _) _)
          clear hw2 hr2
          go_wp2
          have hr4 : Row ((w2.setCell ⟨w.heap.size, 0, none⟩ (.slice A k c)).setCell ⟨w.heap.size, 1, none⟩ (.int .i64 1)) w.heap.size 110 [.slice A k c, .int .i64 1] := (HR2.out.set_ 0 _).set_ 1 _
          refine bodyPost_ret (results_cell_row rfl _ _ _ _ _ _ _ rfl hr4 Tryz.underlying110 rfl (by kernel_rfl)) rfl ⟨?_, (HB3.out.setCell (Nat.le_refl _) _).setCell (Nat.le_refl _) _⟩
          rw [HS2.out, HE.out.2]; rfl
      · have d1 : decide (k < m) = false := decide_eq_false h1
        have HS2 := Lib.hid (show plen l = k by
          have h6 := HY.out
          rw [HE.out.1, ← h6]
          have := HM.out
          have := HN.out
          by_cases h7 : k = l.length
          · exact ylist_end h7
          · rw [ylist_at (by omega), if_neg (by omega)])
        have hr2 : Row wr w.heap.size 110 [.slice none 0 0, .int .i64 0] := by rw [HW.out]; exact HR1.out
        have hc0 := hr2.cell 0
        have hc1 := hr2.cell 1
        have hf0 := hr2.free 0
        have hf1 := hr2.free 1
        simp only [List.getElem?_cons_zero, List.getElem?_cons_succ] at hc0 hc1
        have HR2 := Lib.hid hr2
        have HB3 := Lib.hid (show Below w.heap.size w wr by rw [HW.out]; exact below_drewN HB2.out _)
        have hkc2 : (k : Int) ≤ (c : Int) := by have := HN.out; omega
        clear hlr hr2
        go_wp2
        have hr4 : Row ((wr.setCell ⟨w.heap.size, 0, none⟩ (.slice A k c)).setCell ⟨w.heap.size, 1, none⟩ (.int .i64 1)) w.heap.size 110 [.slice A k c, .int .i64 1] := (HR2.out.set_ 0 _).set_ 1 _
        refine bodyPost_ret (results_cell_row rfl _ _ _ _ _ _ _ rfl hr4 Tryz.underlying110 rfl (by kernel_rfl)) rfl ⟨?_, (HB3.out.setCell (Nat.le_refl _) _).setCell (Nat.le_refl _) _⟩
        rw [HS2.out, HE.out.2]; rfl

/-- The part that stands at the front: how many bytes behind the head, how often. -/
def slen (x : UInt8) : Nat := if x.toNat < 128 then 1 else 256 - x.toNat
def stimes (x : UInt8) : Nat := if x.toNat < 128 then x.toNat + 3 else 1
theorem slen_le (x : UInt8) : 1 ≤ slen x ∧ slen x ≤ 128 := by
  have := x.toNat_lt
  unfold slen
  split <;> omega
theorem stimes_le (x : UInt8) : 1 ≤ stimes x ∧ stimes x ≤ 130 := by
  unfold stimes
  split <;> omega
theorem slen_stimes (x : UInt8) : slen x * stimes x ≤ 130 := by
  have := x.toNat_lt
  unfold slen stimes
  split <;> omega
def StandPost (A : Option Addr) (l : List UInt8) (c : Nat) (w : World) (e : Ending) (w' : World) : Prop :=
  (∃ (h : 0 < l.length), (slen l[0] ≤ l.length - 1 ∧ e = .returned (.tuple #[.agg #[.slice (A.map (·.add 1)) (slen l[0]) (c - 1), .int .i64 (stimes l[0] : Int)], .bool true])) ∨
    (l.length - 1 < slen l[0] ∧ e = .returned (.tuple #[.agg #[.slice none 0 0, .int .i64 0], .bool false]))) ∧ Below w.heap.size w w'
set_option maxHeartbeats 4000000 in
set_option maxRecDepth 100000 in
theorem standing_any (A : Option Addr) (n c : Nat) (l : List UInt8) (w : World) (hn : l.length = n) (hb : n ≤ 1000000) (h0 : 0 < n) (hnc : n ≤ c) (hcm : c ≤ maxLen) (hl : Lies w A (l.map bv)) :
    Calls Tryz.prog 128 #[.slice A n c] w (StandPost A l c w) := by
  have hci : (c : Int) ≤ 9223372036854775807 := by unfold maxLen at hcm; omega
  have hal : 0 < l.length := by omega
  obtain ⟨x, hx⟩ : ∃ x : Nat, x = l[0].toNat := ⟨_, rfl⟩
  have hx8 : x < 256 := by rw [hx]; exact l[0].toNat_lt
  have hb1 : Below w.heap.size w (w.alloc (.cells #[.slice none 0 0, .int .i64 0] 110)) := (Below.refl _ _).alloc (Nat.le_refl _) _
  obtain ⟨ad, rfl, hadlt, hcell⟩ := hl.cell (k := 0) (by rw [List.length_map]; exact hal)
  have hr1 : Row (w.alloc (.cells #[.slice none 0 0, .int .i64 0] 110)) w.heap.size 110 [.slice none 0 0, .int .i64 0] := heap_alloc_new w _
  have hcx : (w.alloc (.cells #[.slice none 0 0, .int .i64 0] 110)).cell? ad = some (.int .u8 (x : Int)) := by
    have e : ad.add 0 = ad := by simp [Addr.add]
    rw [e] at hcell
    rw [hb1.cell hadlt, hcell, List.getElem_map, hx]; rfl
  obtain ⟨w1, hw1⟩ : ∃ w1, w1 = (w.alloc (.cells #[.slice none 0 0, .int .i64 0] 110)).drew := ⟨_, rfl⟩
  have hN0 : (0 : Int) < (n : Int) := by omega
  have HL := Lib.hid hn
  have HX := Lib.hid hx
  have HB := Lib.hid hb1
  have HR1 := Lib.hid hr1
  clear hn hx hb1 hr1 hl hcell hadlt
  obtain ⟨k, hk⟩ : ∃ k, k = slen l[0] := ⟨_, rfl⟩
  obtain ⟨t, ht⟩ : ∃ t, t = stimes l[0] := ⟨_, rfl⟩
  have hk1 : 1 ≤ k ∧ k ≤ 128 := by rw [hk]; exact slen_le _
  have hk2 : 1 ≤ k := hk1.1
  have hk3 : k ≤ 128 := hk1.2
  have ht2 : t ≤ 130 := by rw [ht]; exact (stimes_le _).2
  have HK := Lib.hid hk
  have HT := Lib.hid ht
  have hxw : IntKind.i64.wrap (x : Int) = (x : Int) := by rw [IntKind.wrap_i64]; omega
  have hnw : (n : Int) - 1 = ((n - 1 : Nat) : Int) := by omega
  have hnn : n - 1 ≤ n := by omega
  obtain ⟨N, hN⟩ : ∃ N, N = n - 1 := ⟨_, rfl⟩
  rw [← hN] at hnw hnn
  have HNN := Lib.hid hN
  clear hk ht hk1 hw1 hN
  by_cases h128 : x < 128
  · have d0 : decide ((128 : Int) ≤ (x : Int)) = false := decide_eq_false (by omega)
    have e1 : k = 1 := by rw [HK.out]; unfold slen; rw [← HX.out, if_pos h128]
    have hx3 : IntKind.i64.wrap ((x : Int) + 3) = (t : Int) := by rw [HT.out]; unfold stimes; rw [← HX.out, if_pos h128, IntKind.wrap_i64]; omega
    subst e1
    by_cases hcut : N < 1
    · have d1 : decide ((N : Int) < 1) = true := decide_eq_true (by omega)
      go_enter Tryz.func128, Tryz.ntmps128
      go_wp2
      go_quiet (fail)
      go_wp2
      have hr2 : Row ((((w.alloc (.cells #[.slice none 0 0, .int .i64 0] 110)).drewN nq).setCell ⟨w.heap.size, 0, none⟩ (.slice none 0 0)).setCell ⟨w.heap.size, 1, none⟩ (.int .i64 0)) w.heap.size 110 [.slice none 0 0, .int .i64 0] := ((HR1.out.drewN nq).set_ 0 _).set_ 1 _
      refine bodyPost_ret (results_row_tmp rfl _ _ _ _ _ _ _ _ rfl hr2 Tryz.underlying110 rfl (by kernel_rfl) rfl) rfl ⟨⟨hal, .inr ⟨?_, rfl⟩⟩, ((below_drewN HB.out nq).setCell (Nat.le_refl _) _).setCell (Nat.le_refl _) _⟩
      rw [← HK.out, HL.out, ← HNN.out]; omega
    · have d1 : decide ((N : Int) < 1) = false := decide_eq_false (by omega)
      have hn2 : (2 : Int) ≤ (n : Int) := by have := HNN.out; omega
      have hc1 : ¬ c = 1 := by omega
      have hc2 : (2 : Int) ≤ (c : Int) := by omega
      go_enter Tryz.func128, Tryz.ntmps128
      go_wp2
      go_quiet (fail)
      go_wp2
      have hr2 : Row ((((w.alloc (.cells #[.slice none 0 0, .int .i64 0] 110)).drewN nq).setCell ⟨w.heap.size, 0, none⟩ (.slice (some ⟨ad.block, ad.off + 1, none⟩) 1 (c - 1))).setCell ⟨w.heap.size, 1, none⟩ (.int .i64 (t : Int))) w.heap.size 110 [.slice (some ⟨ad.block, ad.off + 1, none⟩) 1 (c - 1), .int .i64 (t : Int)] := ((HR1.out.drewN nq).set_ 0 _).set_ 1 _
      refine bodyPost_ret (results_row_tmp rfl _ _ _ _ _ _ _ _ rfl hr2 Tryz.underlying110 rfl (by kernel_rfl) rfl) rfl ⟨⟨hal, .inl ⟨?_, ?_⟩⟩, ((below_drewN HB.out nq).setCell (Nat.le_refl _) _).setCell (Nat.le_refl _) _⟩
      · rw [← HK.out, HL.out, ← HNN.out]; omega
      · rw [← HK.out, ← HT.out]; simp [Addr.add]
  · have d0 : decide ((128 : Int) ≤ (x : Int)) = true := decide_eq_true (by omega)
    have hx3 : IntKind.i64.wrap ((x : Int) + 3) = ((x + 3 : Nat) : Int) := by rw [IntKind.wrap_i64]; omega
    have e1 : (256 : Int) - (x : Int) = (k : Int) := by rw [HK.out]; unfold slen; rw [← HX.out, if_neg h128]; omega
    have e2 : t = 1 := by rw [HT.out]; unfold stimes; rw [← HX.out, if_neg h128]
    subst e2
    by_cases hcut : N < k
    · have d1 : decide (N < k) = true := decide_eq_true hcut
      go_enter Tryz.func128, Tryz.ntmps128
      go_wp2
      go_quiet (fail)
      go_wp2
      have hr2 : Row ((((w.alloc (.cells #[.slice none 0 0, .int .i64 0] 110)).drewN nq).setCell ⟨w.heap.size, 0, none⟩ (.slice none 0 0)).setCell ⟨w.heap.size, 1, none⟩ (.int .i64 0)) w.heap.size 110 [.slice none 0 0, .int .i64 0] := ((HR1.out.drewN nq).set_ 0 _).set_ 1 _
      refine bodyPost_ret (results_row_tmp rfl _ _ _ _ _ _ _ _ rfl hr2 Tryz.underlying110 rfl (by kernel_rfl) rfl) rfl ⟨⟨hal, .inr ⟨?_, rfl⟩⟩, ((below_drewN HB.out nq).setCell (Nat.le_refl _) _).setCell (Nat.le_refl _) _⟩
      rw [← HK.out, HL.out, ← HNN.out]; omega
    · have d1 : decide (N < k) = false := decide_eq_false hcut
      obtain ⟨e, he⟩ : ∃ e, e = 1 + k := ⟨_, rfl⟩
      have hei : 1 + (k : Int) = (e : Int) := by omega
      have he1 : (1 : Int) ≤ (e : Int) := by omega
      have hen : (e : Int) ≤ (n : Int) := by have := HNN.out; omega
      have hec : (e : Int) ≤ (c : Int) := by have := HNN.out; omega
      have hek : (e : Int) - 1 = (k : Int) := by omega
      have hek2 : e - 1 = k := by omega
      have hc1 : ¬ c = 1 := by have := HNN.out; omega
      have hE := Lib.hid he
      clear he
      go_enter Tryz.func128, Tryz.ntmps128
      go_wp2
      go_quiet (fail)
      go_wp2
      have hr2 : Row ((((w.alloc (.cells #[.slice none 0 0, .int .i64 0] 110)).drewN nq).setCell ⟨w.heap.size, 0, none⟩ (.slice (some ⟨ad.block, ad.off + 1, none⟩) k (c - 1))).setCell ⟨w.heap.size, 1, none⟩ (.int .i64 1)) w.heap.size 110 [.slice (some ⟨ad.block, ad.off + 1, none⟩) k (c - 1), .int .i64 1] := ((HR1.out.drewN nq).set_ 0 _).set_ 1 _
      refine bodyPost_ret (results_row_tmp rfl _ _ _ _ _ _ _ _ rfl hr2 Tryz.underlying110 rfl (by kernel_rfl) rfl) rfl ⟨⟨hal, .inl ⟨?_, ?_⟩⟩, ((below_drewN HB.out nq).setCell (Nat.le_refl _) _).setCell (Nat.le_refl _) _⟩
      · rw [← HK.out, HL.out, ← HNN.out]; omega
      · rw [← HK.out, ← HT.out]; simp [Addr.add]
end Go.Proofs.YtlibofmpnlfelaaGreatDoor

/- What byterle's two iterators give: the parts that bytes are laid down as; the parts that stand in bytes. -/





namespace Go.Proofs.YtlibofmpnlfelaaGreatDoor

open Go.RowKit Go.Shelf

attribute [local go_sem] Oper.semAt_some

theorem plen_pos {l : List UInt8} (h : l ≠ []) : 1 ≤ plen l := by
  unfold plen
  split
  · omega
  · exact ylist_pos h (by omega)
theorem ptimes_pos (l : List UInt8) : 1 ≤ ptimes l := by unfold ptimes; split <;> omega
theorem plen_128 (l : List UInt8) : plen l ≤ 128 := by
  unfold plen
  split
  · omega
  · exact ylist_128 l 0 (by omega)
theorem ptimes_130 (l : List UInt8) : ptimes l ≤ 130 := by
  have := ysame_130 l
  unfold ptimes
  split <;> omega
theorem plen_ptimes (l : List UInt8) : plen l * ptimes l ≤ 130 ∧ plen l * ptimes l ≤ l.length ∧ plen l ≤ l.length := by
  have h1 := ysame_130 l
  have h2 := ysame_le l
  have h3 := ylist_128 l 0 (by omega)
  have h4 := ylist_le l 0
  unfold plen ptimes
  split <;> omega
/-- By how much the place goes on behind the part at a. -/
def padv (l : List UInt8) (a : Nat) : Nat := plen (l.drop a) * ptimes (l.drop a)
theorem padv_pos {l : List UInt8} {a : Nat} (h : a < l.length) : 1 ≤ padv l a :=
  Nat.mul_pos (plen_pos (by intro e; have := congrArg List.length e; rw [List.length_drop, List.length_nil] at this; omega)) (ptimes_pos _)
theorem padv_le {l : List UInt8} {a : Nat} (h : a < l.length) : a + padv l a ≤ l.length := by
  have := (plen_ptimes (l.drop a)).2.1
  rw [List.length_drop] at this
  unfold padv
  omega
/-- A part as the program has it. -/
def partV (A : Option Addr) (c : Nat) (l : List UInt8) (a : Nat) : Value := .agg #[.slice (A.map (·.add a)) (plen (l.drop a)) (c - a), .int .i64 (ptimes (l.drop a) : Int)]

def SplitRel (l : List UInt8) (A : Option Addr) (n c Bs : Nat) (w00 : World) (J : List {a : Nat // a < n} → World → Prop) (v : Value) (wr : World) : Prop :=
  ∃ (pre : List {a : Nat // a < n}) (a : Nat), v = .int .i64 (a : Int) ∧ a ≤ n ∧ Chain (·.1) (fun x => padv l x.1) pre a ∧ J pre wr ∧ Row wr Bs 25 [.slice A n c] ∧ Below w00.heap.size w00 wr
set_option maxHeartbeats 4000000 in
set_option maxRecDepth 100000 in
theorem split_stops (l : List UInt8) (A : Option Addr) (n c Bs : Nat) (w00 w : World) (hn : l.length = n) (hb : n ≤ 1000000) (hnc : n ≤ c) (hcm : c ≤ maxLen) (hl : Lies w00 A (l.map bv))
    (hbw : Below w00.heap.size w00 w) (hBs : Row w Bs 25 [.slice A n c]) (m : Nat) (hm : 1 ≤ m) :
    SeqStopsK Fence.wide m Tryz.prog 114 #[.pointer (some ⟨Bs, 0, none⟩)] (fun x : {a : Nat // a < n} => #[partV A c l x.1]) (Kps Bs 110 w00.heap.size)
      (fun xs => Chain (·.1) (fun x => padv l x.1) xs n) (fun _ => True) n w := fun q J Jx W hW hJ hJx hY h0 => by
  have hci : (c : Int) ≤ 9223372036854775807 := by unfold maxLen at hcm; omega
  have hst : SplitRel l A n c Bs w00 J (.int .i64 0) W := ⟨[], 0, rfl, by omega, .nil, h0, hBs.below hW hBs.lt, hbw.trans (hW.mono hbw.size)⟩
  have HF := Lib.hid fun (k : Nat) (X : World) (hk : k < n) (h : Below w00.heap.size w00 X) => (show Calls Tryz.prog 115 #[.slice (A.map (·.add k)) (n - k) (c - k)] X (FirstPost (A.map (·.add k)) (l.drop k) (c - k) X) by
    refine first_any (A.map (·.add k)) (n - k) (c - k) (l.drop k) X (by rw [List.length_drop]; omega) (by omega) (by omega) (by omega) (by omega) ?_
    have := (hl.below h).drop (k := k) (cap := c) (by rw [List.length_map]; omega)
    rw [if_neg (by omega)] at this
    rw [List.map_drop]; exact this)
  have HY := Lib.hid hY
  have HJ := Lib.hid hJ
  have HN := Lib.hid hn
  have hzz : W.heap.size ≤ W.heap.size := Nat.le_refl _
  clear hbw hBs hW hJx hY h0 hl hn hJ
  refine callsIn_of_wp Tryz.func114 rfl trivial ?_ rfl
  simp only [Tryz.ntmps114, List.size_toArray, List.length_cons, List.length_nil, Nat.reduceAdd, Nat.reduceSub, Array.replicate_succ, Array.replicate_zero, List.push_toArray, List.append_toArray, List.nil_append, List.cons_append]
  gi_wp2
  gi_loopw [3] (SplitRel l A n c Bs w00 J) (fun v _ => n - (intOf v).toNat)
  case atStart => exact hst
  case round =>
    obtain ⟨pre, a, rfl, han, hch, hj, hbs, hbw⟩ := hrel
    have hcb := hbs.cell 0
    simp only [List.getElem?_cons_zero] at hcb
    have HCH := Lib.hid hch
    have HBS := Lib.hid hbs
    have HBW := Lib.hid hbw
    have HJP := Lib.hid hj
    clear hch hbs hbw hj hst
    by_cases hlt : a < n
    · have hlti : (a : Int) < (n : Int) := by omega
      have hac : (a : Int) ≤ (c : Int) := by omega
      have hkc : ¬ c = a := by omega
      have hcall := HF.out a wr hlt HBW.out
      have HC := Lib.hid hcall
      clear hcall
      gi_wp2_with fail
      refine ⟨trivial, (callsIn_wide.2 HC.out).mono ?_⟩
      rintro e w1 ⟨rfl, hb1⟩
      obtain ⟨k, hk⟩ : ∃ k, k = plen (l.drop a) := ⟨_, rfl⟩
      obtain ⟨t, ht⟩ : ∃ t, t = ptimes (l.drop a) := ⟨_, rfl⟩
      rw [← hk, ← ht]
      have hz1 : wr.heap.size ≤ w1.heap.size := hb1.size
      obtain ⟨g, hg⟩ : ∃ g, g = w1.heap.size := ⟨_, rfl⟩
      have hr2 : Row (w1.alloc (.cells #[.slice (A.map (·.add a)) k (c - a), .int .i64 (t : Int)] 110)) g 110 [.slice (A.map (·.add a)) k (c - a), .int .i64 (t : Int)] := by rw [hg]; exact heap_alloc_new w1 _
      have hb2 : Below wr.heap.size wr (w1.alloc (.cells #[.slice (A.map (·.add a)) k (c - a), .int .i64 (t : Int)] 110)) := hb1.alloc hz1 _
      have hj2 := HJ.out pre wr _ none HJP.out (below_grown hb2) (fun r e => by cases e)
      have hlen := HCH.out.length (fun x : {a : Nat // a < n} => padv_pos (l := l) (a := x.1) (by have := x.2; have := HN.out; omega))
      obtain ⟨fn, tmps, assign, body, hy, hR⟩ := HY.out pre ⟨a, hlt⟩ _ hj2 (by omega)
      unfold partV at hy
      dsimp only at hy
      rw [← hk, ← ht] at hy
      have hc0 := hr2.cell 0
      have hc1 := hr2.cell 1
      simp only [List.getElem?_cons_zero, List.getElem?_cons_succ] at hc0 hc1
      rw [hg] at hc0 hc1
      have HR := Lib.hid hR
      have HR2 := Lib.hid hr2
      have HB2 := Lib.hid hb2
      have HK := Lib.hid hk
      have HT := Lib.hid ht
      have HG := Lib.hid hg
      clear hk ht hr2 hb2 hj2 hlen hR hb1 hg
      gi_wp2
      refine HR.out.mono ?_
      clear hc0 hc1 hy
      rintro e W3 (⟨rfl, hJ3, hk3⟩ | ⟨rfl, hJx3⟩)
      · have hr3 := hk3.row HR2.out
        rw [HG.out] at hr3
        have hc0 := hr3.cell 0
        have hc1 := hr3.cell 1
        simp only [List.getElem?_cons_zero, List.getElem?_cons_succ] at hc0 hc1
        obtain ⟨d, hd⟩ : ∃ d, d = k * t := ⟨_, rfl⟩
        have hmul : (k : Int) * (t : Int) = (d : Int) := by rw [hd, Int.natCast_mul]
        have hpa : padv l a = d := by rw [hd, HK.out, HT.out]; rfl
        have hle := padv_le (l := l) (a := a) (by have := HN.out; omega)
        have hpos := padv_pos (l := l) (a := a) (by have := HN.out; omega)
        rw [hpa] at hle hpos
        have hdw : IntKind.i64.wrap (d : Int) = (d : Int) := by rw [IntKind.wrap_i64]; have := HN.out; omega
        have hrel : SplitRel l A n c Bs w00 J (.int .i64 ((a + d : Nat) : Int)) W3 :=
          ⟨pre ++ [⟨a, hlt⟩], a + d, rfl, by have := HN.out; omega, by have := HCH.out.snoc ⟨a, hlt⟩ rfl; rw [hpa] at this; exact this, hJ3, hk3.box (HBS.out.below HB2.out HBS.out.lt), (HBW.out.trans (HB2.out.mono HBW.out.size)).trans hk3.1⟩
        have HREL := Lib.hid hrel
        have HWR := Lib.hid (show wrap64 ((a : Int) + (d : Int)) = ((a + d : Nat) : Int) by have := HN.out; unfold wrap64; omega)
        clear hr3 hd hpa hrel hk3 hJ3
        gi_wp2
        go_roundw
        case rel => rw [HWR.out]; exact HREL.out
        case measure => rw [HWR.out]; simp [intOf]; have := HN.out; omega
      · gi_wp2
        refine bodyPost_ret (results_none rfl _ _ _) rfl ?_
        exact ⟨⟨_, rfl⟩, .inr ⟨_, trivial, hJx3⟩⟩
    · have hlti : ¬ (a : Int) < (n : Int) := by omega
      have hend : Chain (·.1) (fun x : {a : Nat // a < n} => padv l x.1) pre n := by have := HCH.out; rwa [show a = n by omega] at this
      have HEND := Lib.hid hend
      clear hend
      gi_wp2
      go_end0
      exact ⟨⟨_, rfl⟩, .inl ⟨pre, HEND.out, HJP.out⟩⟩

/-! ### whole$1 -/
/-- A part that stands whole at a: how many bytes, how often. -/
def Stands (l : List UInt8) (a : Nat) : Prop := ∃ h : a < l.length, a + 1 + slen l[a] ≤ l.length
def sAt (l : List UInt8) (a : Nat) : UInt8 := l[a]?.getD 0
theorem sAt_eq {l : List UInt8} {a : Nat} (h : a < l.length) : sAt l a = l[a] := by unfold sAt; rw [List.getElem?_eq_getElem h]; rfl
def addrAt (A : Option Addr) (k : Nat) : Option Addr := A.map (·.add k)
def wholeV (A : Option Addr) (c : Nat) (l : List UInt8) (a : Nat) : Value := .agg #[.slice (addrAt A (a + 1)) (slen (sAt l a)) (c - a - 1), .int .i64 (stimes (sAt l a) : Int)]
def WholeRel (l : List UInt8) (A : Option Addr) (n c Bs : Nat) (w00 : World) (J : List {a : Nat // Stands l a} → World → Prop) (v : Value) (wr : World) : Prop :=
  ∃ (pre : List {a : Nat // Stands l a}) (a : Nat), v = .int .i64 (a : Int) ∧ a ≤ n ∧ Chain (·.1) (fun x => 1 + slen (sAt l x.1)) pre a ∧ J pre wr ∧ Row wr Bs 25 [.slice A n c] ∧ Below w00.heap.size w00 wr
/-- No part stands whole at the end of the rounds. -/
def WholeEnd (l : List UInt8) (xs : List {a : Nat // Stands l a}) : Prop := ∃ a, Chain (·.1) (fun x => 1 + slen (sAt l x.1)) xs a ∧ a ≤ l.length ∧ ¬ Stands l a
/-- A round has said 'no more': its part stands where the others ended. -/
def WholeStop (l : List UInt8) (s : List {a : Nat // Stands l a}) : Prop := ∃ pre x, s = pre ++ [x] ∧ Chain (·.1) (fun x => 1 + slen (sAt l x.1)) pre x.1
theorem map_add_add (A : Option Addr) (a : Nat) : (A.map (·.add a)).map (·.add 1) = addrAt A (a + 1) := by
  cases A with
  | none => rfl
  | some ad => simp [addrAt, add_add]
set_option maxHeartbeats 4000000 in
set_option maxRecDepth 100000 in
theorem whole_stops (l : List UInt8) (A : Option Addr) (n c Bs : Nat) (w00 w : World) (hn : l.length = n) (hb : n ≤ 1000000) (hnc : n ≤ c) (hcm : c ≤ maxLen) (hl : Lies w00 A (l.map bv))
    (hbw : Below w00.heap.size w00 w) (hBs : Row w Bs 25 [.slice A n c]) (m : Nat) (hm : 1 ≤ m) :
    SeqStopsK Fence.wide m Tryz.prog 127 #[.pointer (some ⟨Bs, 0, none⟩)] (fun x : {a : Nat // Stands l a} => #[wholeV A c l x.1]) (Kps Bs 110 w00.heap.size)
      (WholeEnd l) (WholeStop l) n w := fun q J Jx W hW hJ hJx hY h0 => by
  have hci : (c : Int) ≤ 9223372036854775807 := by unfold maxLen at hcm; omega
  have hst : WholeRel l A n c Bs w00 J (.int .i64 0) W := ⟨[], 0, rfl, by omega, .nil, h0, hBs.below hW hBs.lt, hbw.trans (hW.mono hbw.size)⟩
  have HF := Lib.hid fun (k : Nat) (X : World) (hk : k < n) (h : Below w00.heap.size w00 X) => (show Calls Tryz.prog 128 #[.slice (A.map (·.add k)) (n - k) (c - k)] X (StandPost (A.map (·.add k)) (l.drop k) (c - k) X) by
    refine standing_any (A.map (·.add k)) (n - k) (c - k) (l.drop k) X (by rw [List.length_drop]; omega) (by omega) (by omega) (by omega) (by omega) ?_
    have := (hl.below h).drop (k := k) (cap := c) (by rw [List.length_map]; omega)
    rw [if_neg (by omega)] at this
    rw [List.map_drop]; exact this)
  have HY := Lib.hid hY
  have HJ := Lib.hid hJ
  have HN := Lib.hid hn
  clear hbw hBs hW hJx hY h0 hl hn hJ
  refine callsIn_of_wp Tryz.func127 rfl trivial ?_ rfl
  simp only [Tryz.ntmps127, List.size_toArray, List.length_cons, List.length_nil, Nat.reduceAdd, Nat.reduceSub, Array.replicate_succ, Array.replicate_zero, List.push_toArray, List.append_toArray, List.nil_append, List.cons_append]
  gi_wp2
  gi_loopw [3] (WholeRel l A n c Bs w00 J) (fun v _ => n - (intOf v).toNat)
  case atStart => exact hst
  case round =>
    obtain ⟨pre, a, rfl, han, hch, hj, hbs, hbw⟩ := hrel
    have hcb := hbs.cell 0
    simp only [List.getElem?_cons_zero] at hcb
    have HCH := Lib.hid hch
    have HBS := Lib.hid hbs
    have HBW := Lib.hid hbw
    have HJP := Lib.hid hj
    clear hch hbs hbw hj hst
    by_cases hlt : a < n
    · have hlti : (a : Int) < (n : Int) := by omega
      have hac : (a : Int) ≤ (c : Int) := by omega
      have hkc : ¬ c = a := by omega
      have hall : a < l.length := by have := HN.out; omega
      have hcall := HF.out a wr hlt HBW.out
      have HC := Lib.hid hcall
      clear hcall
      gi_wp2_with fail
      refine ⟨trivial, (callsIn_wide.2 HC.out).mono ?_⟩
      rintro e w1 ⟨⟨hdl, hor⟩, hb1⟩
      have hg0 : (l.drop a)[0] = l[a] := by simp
      rw [hg0, List.length_drop] at hor
      have hz1 : wr.heap.size ≤ w1.heap.size := hb1.size
      obtain ⟨g, hg⟩ : ∃ g, g = w1.heap.size := ⟨_, rfl⟩
      rcases hor with ⟨hk1, rfl⟩ | ⟨hk1, rfl⟩
      · rw [map_add_add]
        obtain ⟨B, hBB⟩ : ∃ B, B = addrAt A (a + 1) := ⟨_, rfl⟩
        rw [← hBB]
        obtain ⟨k, hk⟩ : ∃ k, k = slen l[a] := ⟨_, rfl⟩
        obtain ⟨t, ht⟩ : ∃ t, t = stimes l[a] := ⟨_, rfl⟩
        rw [← hk] at hk1
        rw [← hk, ← ht]
        have hS : Stands l a := ⟨hall, by rw [← hk]; omega⟩
        have hr2 : Row (w1.alloc (.cells #[.slice B k (c - a - 1), .int .i64 (t : Int)] 110)) g 110 [.slice B k (c - a - 1), .int .i64 (t : Int)] := by rw [hg]; exact heap_alloc_new w1 _
        have hb2 : Below wr.heap.size wr (w1.alloc (.cells #[.slice B k (c - a - 1), .int .i64 (t : Int)] 110)) := hb1.alloc hz1 _
        have hj2 := HJ.out pre wr _ none HJP.out (below_grown hb2) (fun r e => by cases e)
        have hlen := HCH.out.length (fun x : {a : Nat // Stands l a} => by have := slen_le (sAt l x.1); omega)
        obtain ⟨fn, tmps, assign, body, hy, hR⟩ := HY.out pre ⟨a, hS⟩ _ hj2 (by omega)
        unfold wholeV at hy
        dsimp only at hy
        rw [sAt_eq hall, ← hk, ← ht, ← hBB] at hy
        have hc0 := hr2.cell 0
        have hc1 := hr2.cell 1
        simp only [List.getElem?_cons_zero, List.getElem?_cons_succ] at hc0 hc1
        rw [hg] at hc0 hc1
        have HR := Lib.hid hR
        have HR2 := Lib.hid hr2
        have HB2 := Lib.hid hb2
        have HK := Lib.hid hk
        have HT := Lib.hid ht
        have HG := Lib.hid hg
        have hk128 : 1 ≤ k ∧ k ≤ 128 := by rw [hk]; exact slen_le _
        clear hk ht hBB hr2 hb2 hj2 hlen hR hb1 hg hg0 hdl
        gi_wp2
        refine HR.out.mono ?_
        clear hc0 hc1 hy
        rintro e W3 (⟨rfl, hJ3, hk3⟩ | ⟨rfl, hJx3⟩)
        · have hr3 := hk3.row HR2.out
          rw [HG.out] at hr3
          have hc0 := hr3.cell 0
          have hc1 := hr3.cell 1
          simp only [List.getElem?_cons_zero, List.getElem?_cons_succ] at hc0 hc1
          have hpa : 1 + slen (sAt l a) = 1 + k := by rw [sAt_eq hall, HK.out]
          have hrel : ∀ w4, Below W3.heap.size W3 w4 → WholeRel l A n c Bs w00 J (.int .i64 ((a + (1 + k) : Nat) : Int)) w4 := fun w4 hb4 =>
            ⟨pre ++ [⟨a, hS⟩], a + (1 + k), rfl, by have := HN.out; omega, by have := HCH.out.snoc ⟨a, hS⟩ rfl; rw [hpa] at this; exact this, HJ.out _ W3 w4 none hJ3 (below_grown hb4) (fun r e => by cases e),
              (hk3.box (HBS.out.below HB2.out HBS.out.lt)).below hb4 (hk3.box (HBS.out.below HB2.out HBS.out.lt)).lt,
              ((HBW.out.trans (HB2.out.mono HBW.out.size)).trans hk3.1).trans (hb4.mono ((HBW.out.trans (HB2.out.mono HBW.out.size)).trans hk3.1).size)⟩
          have HREL := Lib.hid hrel
          obtain ⟨z, hz⟩ : ∃ z, z = 1 + k := ⟨_, rfl⟩
          have hz129 : z ≤ 129 := by omega
          have hz1' : 1 ≤ z := by omega
          rw [← hz] at hrel
          have HREL := Lib.hid hrel
          have hzn : a + z ≤ n := by have := HN.out; omega
          have HZ := Lib.hid hz
          clear hr3 hpa hrel hk3 hJ3 hk1 hz
          gi_wp2_with fail
          refine ⟨trivial, (callsIn_wide.2 (ysize_any B k (c - a - 1) (.int .i64 (t : Int)) W3 (by omega))).mono ?_⟩
          rintro e w4 ⟨rfl, hb4⟩
          have HB4 := Lib.hid hb4
          rw [← HZ.out]
          clear hb4 hc0 hc1
          gi_wp2
          go_roundw
          case rel => exact HREL.out _ HB4.out
          case measure => simp [intOf]; omega
        · gi_wp2
          refine bodyPost_ret (results_none rfl _ _ _) rfl ?_
          exact ⟨⟨_, rfl⟩, .inr ⟨_, ⟨pre, ⟨a, hS⟩, rfl, HCH.out⟩, hJx3⟩⟩
      · have hend : WholeEnd l pre := ⟨a, HCH.out, by omega, fun ⟨_, h⟩ => by omega⟩
        have HEND := Lib.hid hend
        have hj2 := HJ.out pre wr (w1.alloc (.cells #[.slice none 0 0, .int .i64 0] 110)) none HJP.out (below_grown (hb1.alloc hz1 _)) (fun r e => by cases e)
        have HJ2 := Lib.hid hj2
        clear hend hj2 hg0 hdl hb1
        gi_wp2
        refine ⟨fun _ h => (by cases h), ?_⟩
        gi_wp2
        refine bodyPost_ret (results_none rfl _ _ _) rfl ?_
        exact ⟨⟨_, rfl⟩, .inl ⟨pre, HEND.out, HJ2.out⟩⟩
    · have hlti : ¬ (a : Int) < (n : Int) := by omega
      have hend : WholeEnd l pre := ⟨a, HCH.out, by have := HN.out; omega, fun ⟨h, _⟩ => by have := HN.out; omega⟩
      have HEND := Lib.hid hend
      clear hend
      gi_wp2
      go_end0
      exact ⟨⟨_, rfl⟩, .inl ⟨pre, HEND.out, HJP.out⟩⟩
end Go.Proofs.YtlibofmpnlfelaaGreatDoor

/- The contract of byterle.Put. -/



namespace Go.Proofs.YtlibofmpnlfelaaGreatDoor

open Go.RowKit Go.Shelf

attribute [local go_sem] Oper.semAt_some

/-- The bytes that the part at a is laid down as. -/
def ypiece (l : List UInt8) (a : Nat) : List UInt8 := UInt8.ofNat (phead (plen (l.drop a)) (ptimes (l.drop a))) :: (l.drop a).take (plen (l.drop a))
theorem ypiece_yput {l : List UInt8} {a : Nat} (h : a < l.length) : yput (l.drop a) = ypiece l a ++ yput (l.drop (a + padv l a)) := by
  by_cases h3 : 3 ≤ ysame (l.drop a)
  · have e1 : plen (l.drop a) = 1 := by unfold plen; rw [if_pos h3]
    have e2 : ptimes (l.drop a) = ysame (l.drop a) := by unfold ptimes; rw [if_pos h3]
    have e3 : (l.drop a).take 1 = [l[a]] := by rw [drop_at h]; rfl
    unfold ypiece padv phead
    rw [e1, e2, if_pos h3, e3, Nat.one_mul, yput_run_at h h3]
  · have e1 : plen (l.drop a) = ylist (l.drop a) 0 := by unfold plen; rw [if_neg h3]
    have e2 : ptimes (l.drop a) = 1 := by unfold ptimes; rw [if_neg h3]
    unfold ypiece padv phead
    rw [e1, e2, if_neg (by omega), Nat.mul_one, yput_list_at h (by omega)]
theorem ypiece_len (l : List UInt8) (a : Nat) : (ypiece l a).length ≤ 129 := by
  have := plen_128 (l.drop a)
  unfold ypiece
  rw [List.length_cons, List.length_take]
  omega
/-- What parts are laid down as, one behind the other. -/
def ylay {n : Nat} (l : List UInt8) (xs : List {a : Nat // a < n}) : List UInt8 := xs.flatMap fun x => ypiece l x.1
theorem ylay_snoc {n : Nat} (l : List UInt8) (xs : List {a : Nat // a < n}) (x : {a : Nat // a < n}) : ylay l (xs ++ [x]) = ylay l xs ++ ypiece l x.1 := by simp [ylay]
theorem ylay_len {n : Nat} (l : List UInt8) : ∀ (xs : List {a : Nat // a < n}), (ylay l xs).length ≤ 129 * xs.length
  | [] => by simp [ylay]
  | x :: xs => by
    have h1 := ylay_len l xs
    have h2 := ypiece_len l x.1
    have h3 : ylay l (x :: xs) = ypiece l x.1 ++ ylay l xs := rfl
    rw [h3, List.length_append, List.length_cons]
    omega
theorem ylay_chain {n : Nat} {l : List UInt8} (hn : l.length = n) {xs : List {a : Nat // a < n}} {a : Nat} (h : Chain (·.1) (fun x => padv l x.1) xs a) : ylay l xs ++ yput (l.drop a) = yput l := by
  induction h with
  | nil => simp [ylay]
  | snoc h x hx ih =>
    subst hx
    rw [ylay_snoc, List.append_assoc, ← ypiece_yput (by have := x.2; omega)]
    exact ih

/-- split hands out a function value that captures a box with the bytes. -/
theorem split_any (v : Value) (w : World) (hv : ∃ A n c, v = .slice A n c) :
    Calls Tryz.prog 86 #[v] w (fun e w' => e = .returned (.func (.func 114) #[] #[.pointer (some ⟨w.heap.size, 0, none⟩)]) ∧ w' = w.alloc (.cells #[v] 25)) := by
  obtain ⟨A, n, c, rfl⟩ := hv
  go_enter Tryz.func86, Tryz.ntmps86
  go_wp2
  go_ret
  exact ⟨rfl, rfl⟩

set_option maxHeartbeats 4000000 in
set_option maxRecDepth 100000 in
theorem bput_any (l : List UInt8) (v : Value) (w : World) (hv : IsB l v w) (hb : l.length ≤ 1000000) :
    Calls Tryz.prog 55 #[v] w (RetE w (yputE l)) := by
  obtain ⟨A, c, rfl, hA, hnc, hcm, hl⟩ := hv
  obtain ⟨n, hn⟩ : ∃ n, n = l.length := ⟨_, rfl⟩
  rw [← hn] at hA hnc hb ⊢
  have hci : (c : Int) ≤ 9223372036854775807 := by unfold maxLen at hcm; omega
  by_cases hbig : n ≤ 4096
  · have hE : Hid (yputE l = (yput l, 0)) := Lib.hid (by unfold yputE; rw [if_pos (by omega)])
    have hbi : ¬ (4096 : Int) < (n : Int) := by omega
    have HN := Lib.hid hn
    have HS := Lib.hid fun (W : World) => split_any (.slice A n c) W ⟨_, _, _, rfl⟩
    refine (callsIn_wide (n := 9)).1 ?_
    refine callsIn_of_wp_marks Tryz.func55 rfl trivial ?_ rfl
    simp only [Tryz.ntmps55, List.size_toArray, List.length_cons, List.length_nil, Nat.reduceAdd, Nat.reduceSub, Array.replicate_succ, Array.replicate_zero, List.push_toArray, List.append_toArray, List.nil_append, List.cons_append]
    clear hn
    gi_wp2_with fail
    refine ⟨trivial, (callsIn_wide.2 (HS.out _)).mono ?_⟩
    rintro e w' ⟨rfl, rfl⟩
    have bO := Boxed.new w 25 (.slice none 0 0)
    have bN := Boxed.new (w.alloc (.cells #[.slice none 0 0] 25)) 25 (.slice A n c)
    rw [World.size_alloc] at bN
    have hB0 : Below w.heap.size w ((w.alloc (.cells #[.slice none 0 0] 25)).alloc (.cells #[.slice A n c] 25)) := ((Below.refl _ w).alloc (Nat.le_refl _) _).alloc (by simp) _
    gi_wp2_with fail
    refine wpIn_rangeFunc_ownH rfl (by omega) (gf := 114) (lb := #[.pointer (some ⟨w.heap.size + 1, 0, none⟩)]) rfl trivial (enters_of Tryz.func114 (by kernel_rfl) rfl)
      (split_stops l A n c (w.heap.size + 1) w _ HN.out.symm hb hnc hcm hl hB0 bN 8 (by omega)) (fun h k => Kps.trans h k) (Kps.turn (by simp; omega) (by simp)) (Below.refl _ _) (fun _ => rfl)
      (fun pre W => (∃ v, Boxed W w.heap.size 25 v ∧ W.ownsRow w.heap.size 5 1 v (ylay l pre).length ((ylay l pre).map bv) ∧ True) ∧ (Row W (w.heap.size + 1) 25 [.slice A n c] ∧ Below w.heap.size w W))
      (fun _ _ _ => False)
      (OwnFrom.and (Own.from (holdsRow_own w.heap.size w.heap.size 25 5 1 (fun pre => (ylay l pre).length) (fun pre => (ylay l pre).map bv) (fun _ _ => True)) _)
        (OwnFrom.and (Own.from (row_own (w.heap.size + 1) 25 (fun _ => [.slice A n c])) _) (ownFrom_below (Nat.le_refl _) (by simp; omega))))
      (fun _ _ _ _ _ hs _ _ => hs)
      ⟨⟨_, bO.alloc _, World.ownsRow_nil _ _ _ _, trivial⟩, bN, hB0⟩
      (fun x a' W => ∃ Bx, w.heap.size + 2 ≤ Bx ∧ Row W Bx 110 [.slice (A.map (·.add x.1)) (plen (l.drop x.1)) (c - x.1), .int .i64 (ptimes (l.drop x.1) : Int)] ∧
        a' = { tmps := #[.slice A n c, undef, .slice none 0 0, .int .i64 0, .pointer (some ⟨w.heap.size, 0, none⟩), .pointer (some ⟨Bx, 0, none⟩), .slice A n c, .int .i64 (n : Int), .bool false, .slice A n c, .func (.func 114) #[] #[.pointer (some ⟨w.heap.size + 1, 0, none⟩)], partV A c l x.1, undef, undef, undef, undef, undef, undef, undef, undef, undef, undef], defers := [] })
      (fun x a' s X Y row hs hg hrow => by
        obtain ⟨Bx, h1, h2, h3⟩ := hs
        exact ⟨Bx, h1, (Own.from (row_own Bx 110 (fun (_ : Unit) => _)) _) () X Y row h2 hg hrow, h3⟩)
      ?assign ?body ?done ?stop
    case assign =>
      rintro q pre x W K ⟨⟨v, hv, hrow, _⟩, hbs, hB⟩ hK
      unfold partV
      gi_wp2
      have h2 := (show Boxed W (w.heap.size + 1) 25 (.slice A n c) from hbs).lt
      exact hK _ _ ((KeepsOthers.alloc _ _).from _) (Kps.of_below ((Below.refl _ W).alloc (Nat.le_refl _) _) hB.size) ⟨⟨v, hv.alloc _, hrow.alloc _, trivial⟩, Row.alloc hbs _, hB.alloc hB.size _⟩ ⟨W.heap.size, by omega, heap_alloc_new W _, rfl⟩
    case body =>
      rintro q pre x a' W _ _ ⟨⟨v, hv, hrow, _⟩, hbs, hB⟩ ⟨Bx, hBx, bX, rfl⟩ hlt
      obtain ⟨a, ha⟩ := x
      dsimp only at bX ⊢
      unfold partV
      obtain ⟨d, hd⟩ : ∃ d, d = l.drop a := ⟨_, rfl⟩
      obtain ⟨k, hk⟩ : ∃ k, k = plen d := ⟨_, rfl⟩
      obtain ⟨t, ht⟩ : ∃ t, t = ptimes d := ⟨_, rfl⟩
      obtain ⟨p, hp⟩ : ∃ p, p = phead k t := ⟨_, rfl⟩
      rw [← hd, ← hk, ← ht] at bX ⊢
      have hdn : d ≠ [] := by intro e; have h1 := congrArg List.length e; rw [hd, List.length_drop, List.length_nil] at h1; have := HN.out; omega
      have hk1 : 1 ≤ k ∧ k ≤ 128 := ⟨by rw [hk]; exact plen_pos hdn, by rw [hk]; exact plen_128 _⟩
      have ht1 : t ≤ 130 := by rw [ht]; exact ptimes_130 _
      have hkd : k ≤ d.length := by rw [hk]; exact (plen_ptimes d).2.2
      have hp8 : p < 256 := by rw [hp]; unfold phead; split <;> omega
      have hpl := ylay_len l pre
      obtain ⟨out, hout⟩ : ∃ out, out = ylay l pre := ⟨_, rfl⟩
      rw [← hout] at hrow hpl
      have HD := Lib.hid hd
      have HK := Lib.hid hk
      have HT := Lib.hid ht
      have HPH := Lib.hid hp
      have HV := Lib.hid hv
      have HROW := Lib.hid hrow
      have HBS := Lib.hid hbs
      have HB := Lib.hid hB
      have HBX := Lib.hid bX
      have HOUT := Lib.hid hout
      clear hd hk ht hp hv hrow hbs hB bX hout
      gi_wp2_with fail
      refine wpIn_round_any (by kernel_rfl) (by kernel_rfl) ?_
      refine wpAny_region_list_tail 4 [.is v, .is (.agg #[.slice (A.map (·.add a)) k (c - a), .int .i64 (t : Int)]), .is (.int .u8 (p : Int)), .bytes [UInt8.ofNat p]] [some 12, some 13, some 14, some 15] (by kernel_rfl) (by kernel_rfl) (by kernel_rfl) rfl ⟨?_, ?_, ?_, ?_, trivial⟩ ?_
      · intro ρ W1 hb1 H
        exact gives_load rfl (H.old 4 _ (by kernel_rfl) rfl) Tryz.underlying25 rfl ((hb1.cell HV.out.lt).trans HV.out.cell) ⟨rfl, Below.refl _ _⟩
      · intro ρ W1 hb1 H
        exact gives_load_row rfl (H.old 5 _ (by kernel_rfl) rfl) Tryz.underlying110 rfl (by kernel_rfl) (HBX.out.below hb1 HBX.out.lt) ⟨rfl, Below.refl _ _⟩
      · intro ρ W1 hb1 H
        have e1 : ρ (.tmp 13) = .agg #[.slice (A.map (·.add a)) k (c - a), .int .i64 (t : Int)] := H.new 13 1 (by kernel_rfl)
        refine gives_call rfl (fun _ _ => by kernel_rfl) (H.func _) (args := #[.agg #[.slice (A.map (·.add a)) k (c - a), .int .i64 (t : Int)]]) (by simp [e1]) ?_
        exact (head_any _ k _ t W1 hk1.1 (by omega) (by omega)).mono fun _ _ h => ⟨_, h.1, by rw [← HPH.out]; rfl, h.2⟩
      · intro ρ W1 hb1 H
        have e1 : ρ (.tmp 14) = .int .u8 (p : Int) := H.new 14 2 (by kernel_rfl)
        have e2 : [UInt8.ofNat p].map bv = [.int .u8 (p : Int)] := by simp [bv, Nat.mod_eq_of_lt hp8]
        refine gives_one elemB rfl e1 rfl ⟨?_, (Below.refl _ _).alloc (Nat.le_refl _) _⟩
        have := isB_new W1 5 [UInt8.ofNat p] 1 rfl (by omega)
        rw [e2] at this
        exact this
      · intro vs W1 hb1 hfs
        have f0 : vs 0 = v := hfs 0 (by decide)
        have f1 : vs 1 = .agg #[.slice (A.map (·.add a)) k (c - a), .int .i64 (t : Int)] := hfs 1 (by decide)
        have f2 : vs 2 = .int .u8 (p : Int) := hfs 2 (by decide)
        have f3 : IsB [UInt8.ofNat p] (vs 3) W1 := hfs 3 (by decide)
        clear hfs
        simp only [putAll, Nat.zero_add, Nat.reduceAdd, List.drop_succ_cons, List.drop_zero]
        rw [f0, f1, f2]
        obtain ⟨A3, c3, e3, h31, h32, h33, h34⟩ := f3
        rw [e3]
        clear f0 f1 f2 e3
        have hown1 := own_later HROW.out hb1
        have hB1 := HB.out.trans (hb1.mono HB.out.size)
        have hz1 := hB1.size
        have HB11 := Lib.hid hb1
        have hA3 : A3 = none → 1 = 0 := by simpa using h31
        simp only [List.length_singleton]
        clear h31 h32 h33 hb1
        have hlen : out.length ≤ 1000000 := by omega
        go_wp2_with (at_builtin; refine wpList_join elemB rfl _ _ rfl w.heap.size _ _ _ _ _ _ ([UInt8.ofNat p].map bv) w rfl rfl hA3 (by simp) h34 (bv_one _) hown1 hB1 hz1 (by omega) (by omega) ?_)
        intro v2 w2 hown2 hb2 hg2 _
        obtain ⟨pb1, pb2, pb3, pb4⟩ := Boxed.put (show Boxed W1 w.heap.size 25 v from Row.below HV.out HB11.out HV.out.lt) (by decide) hown1 hown2 hg2
        have pk := Kps.append (T := 110) hown1 (Nat.le_refl _) (by decide) (Row.below HBS.out HB11.out (Row.lt HBS.out)) (by decide) hg2 hz1
        obtain ⟨B2, c2, rfl, _, _, _, _, _⟩ := own_shape hown2
        have hc1 := pb1.cell
        have hf1 := pb1.frozen
        have PB2 := Lib.hid pb2
        have PB3 := Lib.hid pb3
        have PB4 := Lib.hid pb4
        have PK := Lib.hid pk
        have PB1 := Lib.hid pb1
        have HB2 := Lib.hid hb2
        clear pb2 pb3 pb4 pk pb1 hb2 hown2 hg2 hown1 hB1 hz1 h34 hA3
        go_wp2
        refine goesOn_normal ?_
        obtain ⟨w3, hw3⟩ : ∃ w3, w3 = w2.setCell ⟨w.heap.size, 0, none⟩ (.slice B2 (out.length + 1) c2) := ⟨_, rfl⟩
        have hrow3 := PB3.out
        have hv3 := PB2.out
        have hk3 : KeepsOthers W w3 := by rw [hw3]; exact (below_others HB11.out).trans PB4.out
        have hB3 : Below w.heap.size w w3 := by rw [hw3]; exact HB2.out.setCell (Nat.le_refl _) _
        have hkp3 : Kps (w.heap.size + 1) 110 w.heap.size W w3 := by rw [hw3]; exact ((Kps.of_below HB11.out HB.out.size).trans PK.out).trans (Kps.set PB1.out (by decide) (by omega) (Nat.le_refl _) _)
        rw [← hw3] at hrow3 hv3 ⊢
        have hbx3 := hkp3.row HBX.out
        have hbs3 := hkp3.box HBS.out
        have hl3 : Lies w3 (A.map (·.add a)) ((d.take k).map bv) := by
          have h1 := (hl.below hB3).drop (k := a) (cap := c) (by rw [List.length_map]; have := HN.out; omega)
          rw [if_neg (by omega)] at h1
          have h2 := h1.take k
          rw [← List.map_drop, ← List.map_take, ← HD.out] at h2
          exact h2
        have hz3 := hB3.size
        have hc3 := hv3.cell
        have hx3 := hbx3.cell 0
        simp only [List.getElem?_cons_zero] at hx3
        have hA4 : A.map (·.add a) = none → k = 0 := by
          intro h
          have := hA (by simpa using h)
          omega
        have hdl : (d.take k).length = k := by rw [List.length_take]; omega
        have hdm : ((d.take k).map bv).length = k := by rw [List.length_map]; exact hdl
        have HDM := Lib.hid hdm
        have HDL := Lib.hid hdl
        have HK3 := Lib.hid hk3
        have HB3 := Lib.hid hB3
        have HKP3 := Lib.hid hkp3
        have HV3 := Lib.hid hv3
        have HBS3 := Lib.hid hbs3
        clear hw3 hc1 hf1 hk3 hkp3 hv3 hbx3 hbs3 hdm hdl PB1 PB2 PB3 PB4 PK HB2 HB11
        gi_wp2_with (gi_at_builtin; refine wpListIn_plainly (by kernel_rfl) ?_; refine wpList_join elemB rfl _ _ rfl w.heap.size _ _ _ _ _ _ ((d.take k).map bv) w rfl rfl hA4 HDM.out hl3 (bv_one _) hrow3 hB3 hz3 (by omega) (by omega) ?_)
        intro v4 w4 hown4 hb4 hg4 _
        obtain ⟨pb1, pb2, pb3, pb4⟩ := Boxed.put HV3.out (by decide) hrow3 hown4 hg4
        have pk := Kps.append (T := 110) hrow3 (Nat.le_refl _) (by decide) HBS3.out (by decide) hg4 hz3
        obtain ⟨B4, c4, rfl, _, _, _, _, _⟩ := own_shape hown4
        have hc1 := pb1.cell
        have hf1 := pb1.frozen
        have hx : ylay l (pre ++ [⟨a, ha⟩]) = out ++ (UInt8.ofNat p :: d.take k) := by
          rw [ylay_snoc, ← HOUT.out]
          unfold ypiece
          rw [← HD.out, ← HK.out, ← HT.out, ← HPH.out]
        have hx1 : (ylay l (pre ++ [⟨a, ha⟩])).length = out.length + 1 + k := by
          have := HDL.out
          rw [hx, List.length_append, List.length_cons]; omega
        have hx2 : (ylay l (pre ++ [⟨a, ha⟩])).map bv = out.map bv ++ bv (UInt8.ofNat p) :: (d.map bv).take k := by
          rw [hx, List.map_append, List.map_cons, List.map_take]
        have hI : (∃ v, Boxed (w4.setCell ⟨w.heap.size, 0, none⟩ (.slice B4 (out.length + 1 + k) c4)) w.heap.size 25 v ∧ (w4.setCell ⟨w.heap.size, 0, none⟩ (.slice B4 (out.length + 1 + k) c4)).ownsRow w.heap.size 5 1 v (ylay l (pre ++ [⟨a, ha⟩])).length ((ylay l (pre ++ [⟨a, ha⟩])).map bv) ∧ True) :=
          ⟨_, pb2, by rw [hx1, hx2]; exact pb3, trivial⟩
        have HI := Lib.hid hI
        have hkp5 : Kps (w.heap.size + 1) 110 w.heap.size W (w4.setCell ⟨w.heap.size, 0, none⟩ (.slice B4 (out.length + 1 + k) c4)) := (HKP3.out.trans pk).trans (Kps.set pb1 (by decide) (by omega) (Nat.le_refl _) _)
        have HKP5 := Lib.hid hkp5
        have HKO := Lib.hid (HK3.out.trans pb4)
        clear pb2 pb3 pb4 pk hown4 hg4 hrow3 hB3 hz3 hl3 hA4 hb4 hx hx1 hx2 hI hkp5 hc3 hx3 pb1
        go_wp2
        refine goesOn_normal ?_
        gi_wp2
        exact ⟨HKO.out.from _, HKP5.out, HI.out, HKP5.out.box HBS.out, HB.out.trans HKP5.out.1⟩
    case done =>
      rintro D xs W hD hch ⟨⟨v, hv, hrow, _⟩, hbs, hB⟩ hK
      have hend : ylay l xs = yput l := by
        have := ylay_chain HN.out.symm hch
        rw [List.drop_of_length_le (by have := HN.out; omega), yput_nil, List.append_nil] at this
        exact this
      rw [hend] at hrow
      have hc := hv.cell
      gi_wp2
      refine ⟨by simp, .inl ⟨_, _, rfl, run_takeDeferred hK, ?_⟩⟩
      refine ⟨_, results_tmp2 rfl _ _ _, ?_⟩
      rw [hE.out]
      exact ⟨v, rfl, isB_own (ownsRow_putObj hrow _ hK rfl), hB.trans (belowK_b (w := w) (Nat.le_refl _) W D _ _ (by simp at hD; omega) hK rfl rfl)⟩
    case stop =>
      rintro D c pre W _ _ h _
      exact h.elim
  · have hE : Hid (yputE l = ([], 3)) := Lib.hid (by unfold yputE; rw [if_neg (by omega)])
    have hbi : (4096 : Int) < (n : Int) := by omega
    clear hn hl hcm hA
    go_enter Tryz.func55, Tryz.ntmps55
    go_wp2
    go_ret2
    rw [hE.out]
    exact RetE.nil _ (Below.refl _ _)
end Go.Proofs.YtlibofmpnlfelaaGreatDoor

/- The contract of byterle.Take. -/



namespace Go.Proofs.YtlibofmpnlfelaaGreatDoor

open Go.RowKit Go.Shelf

attribute [local go_sem] Oper.semAt_some

/-- The bytes of the part at a. -/
def spiece (l : List UInt8) (a : Nat) : List UInt8 := (l.drop (a + 1)).take (slen (sAt l a))
theorem spiece_len {l : List UInt8} {a : Nat} (h : Stands l a) : (spiece l a).length = slen (sAt l a) := by
  obtain ⟨h1, h2⟩ := h
  unfold spiece
  rw [List.length_take, List.length_drop, sAt_eq h1]
  omega
/-- So many times the same bytes. -/
def rep (p : List UInt8) : Nat → List UInt8
  | 0 => []
  | k + 1 => rep p k ++ p
theorem rep_len (p : List UInt8) : ∀ k, (rep p k).length = k * p.length
  | 0 => by simp [rep]
  | k + 1 => by rw [rep, List.length_append, rep_len p k, Nat.succ_mul]
theorem rep_one (p : List UInt8) : rep p 1 = p := by simp [rep]
theorem rep_single (x : UInt8) : ∀ k, rep [x] k = List.replicate k x
  | 0 => rfl
  | k + 1 => by rw [rep, rep_single x k, List.replicate_succ']
/-- What the parts come to. -/
def scont {l : List UInt8} (xs : List {a : Nat // Stands l a}) : List UInt8 := xs.flatMap fun x => rep (spiece l x.1) (stimes (sAt l x.1))
theorem scont_snoc {l : List UInt8} (xs : List {a : Nat // Stands l a}) (x : {a : Nat // Stands l a}) : scont (xs ++ [x]) = scont xs ++ rep (spiece l x.1) (stimes (sAt l x.1)) := by simp [scont]
/-- Where they end. -/
def spos {l : List UInt8} (xs : List {a : Nat // Stands l a}) : Nat := (xs.map fun x => 1 + slen (sAt l x.1)).sum
theorem spos_snoc {l : List UInt8} (xs : List {a : Nat // Stands l a}) (x : {a : Nat // Stands l a}) : spos (xs ++ [x]) = spos xs + (1 + slen (sAt l x.1)) := by simp [spos]
theorem spos_chain {l : List UInt8} {xs : List {a : Nat // Stands l a}} {a : Nat} (h : Chain (·.1) (fun x => 1 + slen (sAt l x.1)) xs a) : spos xs = a := by
  induction h with
  | nil => rfl
  | snoc h x hx ih => rw [spos_snoc, ih]
theorem spos_le {l : List UInt8} : ∀ (xs : List {a : Nat // Stands l a}), spos xs ≤ 129 * xs.length
  | [] => by simp [spos]
  | x :: xs => by
    have h1 := spos_le xs
    have h2 := (slen_le (sAt l x.1)).2
    have h3 : spos (x :: xs) = 1 + slen (sAt l x.1) + spos xs := by simp [spos]
    rw [h3, List.length_cons]
    omega
/-- Before each of these parts there were too few. -/
def Few (M : Nat) {l : List UInt8} (xs : List {a : Nat // Stands l a}) : Prop := ∀ ys zs, xs = ys ++ zs → zs ≠ [] → (scont ys).length < M
theorem Few.snoc {M : Nat} {l : List UInt8} {xs : List {a : Nat // Stands l a}} (h : Few M xs) (hl : (scont xs).length < M) (x : {a : Nat // Stands l a}) : Few M (xs ++ [x]) := by
  intro ys zs he hz
  rcases List.eq_nil_or_concat zs with rfl | ⟨zs', z, rfl⟩
  · exact absurd rfl hz
  · rw [List.concat_eq_append, ← List.append_assoc] at he
    have h1 := List.append_inj_left' he rfl
    by_cases h2 : zs' = []
    · subst h2
      rw [List.append_nil] at h1
      rw [← h1]; exact hl
    · exact h ys zs' h1 h2
theorem Few.left {M : Nat} {l : List UInt8} {xs : List {a : Nat // Stands l a}} {x : {a : Nat // Stands l a}} (h : Few M (xs ++ [x])) : Few M xs ∧ (scont xs).length < M :=
  ⟨fun ys zs he hz => h ys (zs ++ [x]) (by rw [he, List.append_assoc]) (by simp), h xs [x] rfl (by simp)⟩
theorem left_chain {l : List UInt8} {M : Nat} {xs : List {a : Nat // Stands l a}} {a : Nat} (h : Chain (·.1) (fun x => 1 + slen (sAt l x.1)) xs a) : Few M xs → YLeft l M a (scont xs) := by
  induction h with
  | nil => exact fun _ => YLeft.start l M
  | snoc h x hx ih =>
    intro hf
    obtain ⟨hf1, hf2⟩ := hf.left
    have h1 := ih hf1
    obtain ⟨x, h3, h4⟩ := x
    dsimp only at hx
    subst hx
    rw [scont_snoc]
    dsimp only
    unfold spiece
    rw [sAt_eq h3]
    by_cases h128 : l[x].toNat < 128
    · have e1 : slen l[x] = 1 := by unfold slen; rw [if_pos h128]
      have e2 : stimes l[x] = l[x].toNat + 3 := by unfold stimes; rw [if_pos h128]
      rw [e1] at h4
      have e3 : (l.drop (x + 1)).take 1 = [l[x + 1]] := by rw [drop_at (by omega)]; rfl
      rw [e1, e2, e3, rep_single]
      exact h1.run hf2 (by omega) rfl h128
    · have e1 : slen l[x] = 256 - l[x].toNat := by unfold slen; rw [if_neg h128]
      have e2 : stimes l[x] = 1 := by unfold stimes; rw [if_neg h128]
      rw [e1] at h4
      rw [e1, e2, rep_one, ← Nat.add_assoc]
      exact h1.list hf2 h3 rfl h128 (by omega)
theorem end_none {l m : List UInt8} {M a : Nat} (h : YLeft l M a m) (hm : m.length < M) (ha : ¬ Stands l a) (hal : a ≤ l.length) : ytake M l = none := by
  by_cases h1 : a < l.length
  · by_cases h128 : l[a].toNat < 128
    · refine h.short hm ?_
      have e1 : slen l[a] = 1 := by unfold slen; rw [if_pos h128]
      have : ¬ a + 1 + 1 ≤ l.length := fun h2 => ha ⟨h1, by rw [e1]; exact h2⟩
      omega
    · have e1 : slen l[a] = 256 - l[a].toNat := by unfold slen; rw [if_neg h128]
      have : ¬ a + 1 + (256 - l[a].toNat) ≤ l.length := fun h2 => ha ⟨h1, by rw [e1]; exact h2⟩
      exact h.cut hm h1 rfl h128 (by omega)
  · exact h.short hm (by omega)

/-- whole hands out a function value that captures a box with the bytes. -/
theorem whole_any (v : Value) (w : World) (hv : ∃ A n c, v = .slice A n c) :
    Calls Tryz.prog 104 #[v] w (fun e w' => e = .returned (.func (.func 127) #[] #[.pointer (some ⟨w.heap.size, 0, none⟩)]) ∧ w' = w.alloc (.cells #[v] 25)) := by
  obtain ⟨A, n, c, rfl⟩ := hv
  go_enter Tryz.func104, Tryz.ntmps104
  go_wp2
  go_ret
  exact ⟨rfl, rfl⟩

/-- Between two rounds: what the boxes hold (out: g, at: g + 1, many: z, the iterator's bytes: g + 2). -/
def TakeI (l : List UInt8) (M : Nat) (A : Option Addr) (n c g : Nat) (w : World) (pre : List {a : Nat // Stands l a}) (W : World) : Prop :=
  (∃ v, Boxed W g 25 v ∧ W.ownsRow w.heap.size 5 1 v (scont pre).length ((scont pre).map bv) ∧ True) ∧
    ((Row W (g + 1) 3 [.int .i64 (spos pre : Int)] ∧ Row W w.heap.size 3 [.int .i64 (M : Int)]) ∧ (Row W (g + 2) 25 [.slice A n c] ∧ Below w.heap.size w W)) ∧ Few M pre
theorem takeI_own (l : List UInt8) (M : Nat) (A : Option Addr) (n c g B : Nat) (w : World) (hB : w.heap.size ≤ B) : OwnFrom B (TakeI l M A n c g w) :=
  OwnFrom.and (Own.from (holdsRow_own w.heap.size g 25 5 1 (fun pre => (scont pre).length) (fun pre => (scont pre).map bv) (fun _ _ => True)) _)
    (OwnFrom.and (OwnFrom.and (OwnFrom.and (Own.from (row_own (g + 1) 3 (fun pre => [.int .i64 (spos pre : Int)])) _) (Own.from (row_own w.heap.size 3 (fun _ => [.int .i64 (M : Int)])) _))
      (OwnFrom.and (Own.from (row_own (g + 2) 25 (fun _ => [.slice A n c])) _) (ownFrom_below (Nat.le_refl _) hB))) (ownFrom_pure _ _))
/-- A round has been left: ahead of its part there were enough. -/
def TakeX (l : List UInt8) (M : Nat) (A : Option Addr) (n c g : Nat) (w : World) (x : Code) (s : List {a : Nat // Stands l a}) (W : World) : Prop :=
  x = .exit 0 ∧ ∃ pre y, s = pre ++ [y] ∧ M ≤ (scont pre).length ∧ TakeI l M A n c g w pre W
def InRel (g t : Nat) (M P : Int) (out piece : List UInt8) (w W : World) (v : Value) (wr : World) : Prop :=
  ∃ (j : Nat) (u : Value), v = .int .i64 (j : Int) ∧ j ≤ t ∧ Boxed wr g 25 u ∧ wr.ownsRow w.heap.size 5 1 u (out ++ rep piece j).length ((out ++ rep piece j).map bv) ∧
    Row wr (g + 1) 3 [.int .i64 P] ∧ Row wr w.heap.size 3 [.int .i64 M] ∧ KeepsOthers W wr ∧ Kps (g + 2) 110 w.heap.size W wr

set_option maxHeartbeats 4000000 in
set_option maxRecDepth 100000 in
theorem btake_any (l : List UInt8) (v : Value) (many : Int) (w : World) (hv : IsB l v w) (hb : l.length ≤ 1000000) :
    Calls Tryz.prog 75 #[v, .int .i64 many] w (RetBB w (ytakeE l many)) := by
  obtain ⟨A, c, rfl, hA, hnc, hcm, hl⟩ := hv
  obtain ⟨n, hn⟩ : ∃ n, n = l.length := ⟨_, rfl⟩
  rw [← hn] at hA hnc hb ⊢
  have hci : (c : Int) ≤ 9223372036854775807 := by unfold maxLen at hcm; omega
  by_cases h0 : many < 0
  · have hE := Lib.hid (ytakeE_arg (l := l) (Or.inl h0))
    have d1 : decide (many < 0) = true := decide_eq_true h0
    clear hn hl hcm hA hnc
    go_enter Tryz.func75, Tryz.ntmps75
    go_wp2
    go_ret3
    rw [hE.out]
    exact RetBB.nil _ ((Below.refl _ _).alloc (Nat.le_refl _) _)
  · have d1 : decide (many < 0) = false := decide_eq_false h0
    by_cases h4 : 4096 < many
    · have hE := Lib.hid (ytakeE_arg (l := l) (Or.inr h4))
      have d2 : decide ((4096 : Int) < many) = true := decide_eq_true h4
      clear hn hl hcm hA hnc
      go_enter Tryz.func75, Tryz.ntmps75
      go_wp2
      go_ret3
      rw [hE.out]
      exact RetBB.nil _ ((Below.refl _ _).alloc (Nat.le_refl _) _)
    · obtain ⟨M, rfl⟩ := Int.eq_ofNat_of_zero_le (show 0 ≤ many by omega)
      have hM : M ≤ 4096 := by omega
      have d2 : decide ((4096 : Int) < (M : Int)) = false := decide_eq_false (by omega)
      have HN := Lib.hid hn
      have HS := Lib.hid fun (W : World) => whole_any (.slice A n c) W ⟨_, _, _, rfl⟩
      have hW0 : Below w.heap.size w (w.alloc (.cells #[.int .i64 (M : Int)] 3)) := (Below.refl _ _).alloc (Nat.le_refl _) _
      have hZ0 : w.heap.size ≤ (w.alloc (.cells #[.int .i64 (M : Int)] 3)).heap.size := hW0.size
      have hR0 : Row (w.alloc (.cells #[.int .i64 (M : Int)] 3)) w.heap.size 3 [.int .i64 (M : Int)] := heap_alloc_new w _
      refine (callsIn_wide (n := 9)).1 ?_
      refine callsIn_of_wp_marks Tryz.func75 rfl trivial ?_ rfl
      simp only [Tryz.ntmps75, List.size_toArray, List.length_cons, List.length_nil, Nat.reduceAdd, Nat.reduceSub, Array.replicate_succ, Array.replicate_zero, List.push_toArray, List.append_toArray, List.nil_append, List.cons_append]
      clear hn
      refine wpIn_wide.2 ?_
      have hZ1 : w.heap.size + 1 ≤ (w.alloc (.cells #[.int .i64 (M : Int)] 3)).heap.size := by simp
      go_wp2_with (refine wpList_make0 elemB rfl _ _ rfl .i64 .i64 (M : Int) M (w.heap.size + 1) (w.alloc (.cells #[.int .i64 (M : Int)] 3)) rfl rfl rfl (by omega) (by omega) (Below.refl _ _) hZ1 ?_)
      intro w1 hown1 hb1 hz1
      have hm1 : Row w1 w.heap.size 3 [.int .i64 (M : Int)] := hR0.below hb1 (by omega)
      have hB1 : Below w.heap.size w w1 := hW0.trans (hb1.mono (by omega))
      have hown2 : w1.ownsRow w.heap.size 5 1 (.slice (some ⟨w.heap.size + 1, 0, none⟩) 0 M) 0 [] := own_le hown1 (by omega)
      obtain ⟨g, hg⟩ : ∃ g, g = w1.heap.size := ⟨_, rfl⟩
      have HG := Lib.hid hg
      clear hown1 hb1 hW0 hZ0 hR0 hZ1
      -- THE LOOP
      go_wp2_with fail
      refine (HS.out _).mono ?_
      rintro e w' ⟨rfl, rfl⟩
      have bO : Boxed (((w1.alloc (.cells #[.slice (some ⟨w.heap.size + 1, 0, none⟩) 0 M] 25)).alloc (.cells #[.int .i64 0] 3)).alloc (.cells #[.slice A n c] 25)) w1.heap.size 25 (.slice (some ⟨w.heap.size + 1, 0, none⟩) 0 M) := ((Boxed.new w1 _ _).alloc _).alloc _
      have bP : Row (((w1.alloc (.cells #[.slice (some ⟨w.heap.size + 1, 0, none⟩) 0 M] 25)).alloc (.cells #[.int .i64 0] 3)).alloc (.cells #[.slice A n c] 25)) (w1.heap.size + 1) 3 [.int .i64 0] := by
        have h := (show Row ((w1.alloc (.cells #[.slice (some ⟨w.heap.size + 1, 0, none⟩) 0 M] 25)).alloc (.cells #[.int .i64 0] 3)) (w1.alloc (.cells #[.slice (some ⟨w.heap.size + 1, 0, none⟩) 0 M] 25)).heap.size 3 [.int .i64 0] from heap_alloc_new _ _).alloc (.cells #[.slice A n c] 25)
        rwa [World.size_alloc] at h
      have bN : Row (((w1.alloc (.cells #[.slice (some ⟨w.heap.size + 1, 0, none⟩) 0 M] 25)).alloc (.cells #[.int .i64 0] 3)).alloc (.cells #[.slice A n c] 25)) (w1.heap.size + 2) 25 [.slice A n c] := by
        have h := (show Row (((w1.alloc (.cells #[.slice (some ⟨w.heap.size + 1, 0, none⟩) 0 M] 25)).alloc (.cells #[.int .i64 0] 3)).alloc (.cells #[.slice A n c] 25)) ((w1.alloc (.cells #[.slice (some ⟨w.heap.size + 1, 0, none⟩) 0 M] 25)).alloc (.cells #[.int .i64 0] 3)).heap.size 25 [.slice A n c] from heap_alloc_new _ _)
        rwa [World.size_alloc, World.size_alloc] at h
      have hb3 : Below w1.heap.size w1 (((w1.alloc (.cells #[.slice (some ⟨w.heap.size + 1, 0, none⟩) 0 M] 25)).alloc (.cells #[.int .i64 0] 3)).alloc (.cells #[.slice A n c] 25)) := (((Below.refl _ w1).alloc (Nat.le_refl _) _).alloc (by simp) _).alloc (by simp; omega) _
      have hm3 : Row (((w1.alloc (.cells #[.slice (some ⟨w.heap.size + 1, 0, none⟩) 0 M] 25)).alloc (.cells #[.int .i64 0] 3)).alloc (.cells #[.slice A n c] 25)) w.heap.size 3 [.int .i64 (M : Int)] := hm1.below hb3 hm1.lt
      have hB3 : Below w.heap.size w (((w1.alloc (.cells #[.slice (some ⟨w.heap.size + 1, 0, none⟩) 0 M] 25)).alloc (.cells #[.int .i64 0] 3)).alloc (.cells #[.slice A n c] 25)) := hB1.trans (hb3.mono hB1.size)
      have hown3 := own_later hown2 hb3
      have hwg : w.heap.size + 2 ≤ w1.heap.size := by
        have := (own_shape hown2)
        have h := hz1
        have h2 := hown2.lt
        have h3 := (h2 (w.heap.size + 1) rfl).2
        omega
      obtain ⟨w3, hw3⟩ : ∃ w3, w3 = (((w1.alloc (.cells #[.slice (some ⟨w.heap.size + 1, 0, none⟩) 0 M] 25)).alloc (.cells #[.int .i64 0] 3)).alloc (.cells #[.slice A n c] 25)) := ⟨_, rfl⟩
      have hs3 : w3.heap.size = w1.heap.size + 3 := by rw [hw3]; simp
      rw [← hw3] at bO bP bN hb3 hm3 hB3 hown3 ⊢
      clear hw3 hb3 hown2 hm1 hB1
      go_wp2_with fail
      refine (wpIn_wide (n := 9)).1 ?_
      refine wpIn_rangeFunc_ownH rfl (by omega) (gf := 127) (lb := #[.pointer (some ⟨w1.heap.size + 2, 0, none⟩)]) rfl trivial (enters_of Tryz.func127 (by kernel_rfl) rfl)
        (whole_stops l A n c (w1.heap.size + 2) w _ HN.out.symm hb hnc hcm hl hB3 bN 8 (by omega)) (fun h k => Kps.trans h k) (Kps.turn (by omega) (by omega)) (Below.refl _ _) (fun _ => rfl)
        (TakeI l M A n c w1.heap.size w) (TakeX l M A n c w1.heap.size w) (takeI_own l M A n c w1.heap.size _ w (by omega))
        (fun _ s X Y row ⟨h1, pre, y, h2, h3, h4⟩ hg hr => ⟨h1, pre, y, h2, h3, takeI_own l M A n c w1.heap.size _ w (by omega) pre X Y row h4 hg hr⟩)
        ⟨⟨_, bO, hown3, trivial⟩, ⟨⟨bP, hm3⟩, bN, hB3⟩, fun ys zs he hz => by simp at he; exact absurd he.2 hz⟩
        (fun x a' W => ∃ Bx, Row W Bx 110 [.slice (addrAt A (x.1 + 1)) (slen (sAt l x.1)) (c - x.1 - 1), .int .i64 (stimes (sAt l x.1) : Int)] ∧ a' = { tmps := #[.slice A n c, .int .i64 (M : Int), undef, .pointer (some ⟨w.heap.size, 0, none⟩), .slice none 0 0, .slice none 0 0, .int .i64 0, .pointer (some ⟨w1.heap.size, 0, none⟩), .pointer (some ⟨w1.heap.size + 1, 0, none⟩), .pointer (some ⟨Bx, 0, none⟩), .int .i64 (M : Int), .bool false, .bool false, .int .i64 (M : Int), .bool false, .bool false, .int .i64 (M : Int), .slice (some ⟨w.heap.size + 1, 0, none⟩) 0 M, .slice A n c, .func (.func 127) #[] #[.pointer (some ⟨w1.heap.size + 2, 0, none⟩)], wholeV A c l x.1, undef, undef, undef, undef, undef, undef, undef, undef, undef, undef, undef, undef, undef, undef, undef, undef, undef, undef, undef, undef, undef, undef, undef, undef, undef, undef], defers := [] })
        (fun x a' s X Y row hs hg hrow => by
          obtain ⟨Bx, h2, h3⟩ := hs
          exact ⟨Bx, (Own.from (row_own Bx 110 (fun (_ : Unit) => _)) _) () X Y row h2 hg hrow, h3⟩)
        ?assign ?body ?done ?stop
      case assign =>
        rintro q pre x W K ⟨⟨v, hv, hrow, _⟩, ⟨⟨hp, hm⟩, hbs, hB⟩, hf⟩ hK
        unfold wholeV
        gi_wp2
        exact hK _ _ ((KeepsOthers.alloc _ _).from _) (Kps.of_below ((Below.refl _ W).alloc (Nat.le_refl _) _) hB.size) ⟨⟨v, hv.alloc _, hrow.alloc _, trivial⟩, ⟨⟨Row.alloc hp _, Row.alloc hm _⟩, Row.alloc hbs _, hB.alloc hB.size _⟩, hf⟩ ⟨W.heap.size, heap_alloc_new W _, rfl⟩
      case body =>
        rintro q pre x a' W _ _ ⟨⟨v, hv, hrow, _⟩, ⟨⟨hp, hm⟩, hbs, hB⟩, hf⟩ ⟨Bx, bX, rfl⟩ hlt
        have hI : TakeI l M A n c w1.heap.size w pre W := ⟨⟨v, hv, hrow, trivial⟩, ⟨⟨hp, hm⟩, hbs, hB⟩, hf⟩
        have HI := Lib.hid hI
        obtain ⟨a, hS⟩ := x
        dsimp only at bX ⊢
        unfold wholeV
        obtain ⟨B1, hB1⟩ : ∃ B1, B1 = addrAt A (a + 1) := ⟨_, rfl⟩
        obtain ⟨k, hk⟩ : ∃ k, k = slen (sAt l a) := ⟨_, rfl⟩
        obtain ⟨t, ht⟩ : ∃ t, t = stimes (sAt l a) := ⟨_, rfl⟩
        obtain ⟨P, hP⟩ : ∃ P, P = spos pre := ⟨_, rfl⟩
        obtain ⟨out, hout⟩ : ∃ out, out = scont pre := ⟨_, rfl⟩
        obtain ⟨piece, hpc⟩ : ∃ piece, piece = spiece l a := ⟨_, rfl⟩
        rw [← hB1, ← hk, ← ht] at bX ⊢
        rw [← hP] at hp
        rw [← hout] at hrow
        have hal := hS.2
        rw [← sAt_eq hS.1, ← hk] at hal
        have hk1 : 1 ≤ k ∧ k ≤ 128 := by rw [hk]; exact slen_le _
        have ht1 : 1 ≤ t ∧ t ≤ 130 := by rw [ht]; exact stimes_le _
        have hkt : k * t ≤ 130 := by rw [hk, ht]; exact slen_stimes _
        have hpl : piece.length = k := by rw [hpc, hk]; exact spiece_len hS
        have hPle : P ≤ 129 * pre.length := by rw [hP]; exact spos_le pre
        obtain ⟨L, hL⟩ : ∃ L, L = out.length := ⟨_, rfl⟩
        rw [← hL] at hrow
        obtain ⟨B, cb, rfl, _, _, _, _, _⟩ := own_shape hrow
        have HL := Lib.hid hL
        have HOUT := Lib.hid hout
        have HPC := Lib.hid hpc
        have HP := Lib.hid hP
        have HK := Lib.hid hk
        have HT := Lib.hid ht
        have HB1 := Lib.hid hB1
        have HF := Lib.hid hf
        have hc1 := hv.cell
        have hc2 := hm.cell 0
        simp only [List.getElem?_cons_zero] at hc2
        clear hL hout hpc hP hk ht hB1 hI hf
        by_cases hML : M ≤ L
        · have d1 : decide (M ≤ L) = true := decide_eq_true hML
          have hMo : M ≤ (scont pre).length := by rw [← HOUT.out, ← HL.out]; exact hML
          have HMO := Lib.hid hMo
          clear hMo bX hv hm hp hbs hB hrow hpl
          gi_wp2
          exact ⟨KeepsFrom.refl _ _, rfl, pre, ⟨a, hS⟩, rfl, HMO.out, HI.out⟩
        · have d1 : decide (M ≤ L) = false := decide_eq_false hML
          have hLM : L < M := by omega
          have hx1 := bX.cell 1
          simp only [List.getElem?_cons_succ, List.getElem?_cons_zero] at hx1
          have hst : InRel w1.heap.size t (M : Int) (P : Int) out piece w W (.int .i64 0) W :=
            ⟨0, _, rfl, by omega, hv, by rw [rep, List.append_nil, ← HL.out]; exact hrow, hp, hm, KeepsOthers.refl _, Kps.refl _ _ _ _⟩
          have HST := Lib.hid hst
          have HBX := Lib.hid bX
          have HBS := Lib.hid hbs
          have HB := Lib.hid hB
          have HV := Lib.hid hv
          have HPL := Lib.hid hpl
          clear hv hm hp hbs hB hrow hst bX hpl
          gi_wp2
          gi_loopw [27] (InRel w1.heap.size t (M : Int) (P : Int) out piece w W) (fun v _ => t - (intOf v).toNat)
          case atStart => exact HST.out
          case round =>
            obtain ⟨j, u, rfl, hj, hbo, hown, hpo, hmo, hko, hkp⟩ := hrel
            have hjk : j * k ≤ 130 := by
              have h1 := Nat.mul_le_mul_right k hj
              rw [Nat.mul_comm t k] at h1
              omega
            obtain ⟨Lj, hLj⟩ : ∃ Lj, Lj = (out ++ rep piece j).length := ⟨_, rfl⟩
            have hLjb : Lj ≤ 5000 := by rw [hLj, List.length_append, rep_len, ← HL.out, HPL.out]; omega
            have hBr : Below w.heap.size w wr := HB.out.trans hkp.1
            have hbr := hkp.row HBX.out
            have hbsr := hkp.box HBS.out
            have hco := hbo.cell
            have hx0 := hbr.cell 0
            simp only [List.getElem?_cons_zero] at hx0
            by_cases hjt : j < t
            · have hjti : (j : Int) < (t : Int) := by omega
              have hlr : Lies wr B1 (piece.map bv) := by
                have h1 := (hl.below hBr).drop (k := a + 1) (cap := c) (by rw [List.length_map]; have := HN.out; omega)
                have h0 := HN.out
                rw [if_neg (by omega)] at h1
                have h2 := h1.take k
                rw [← List.map_drop, ← List.map_take, HK.out] at h2
                rw [HPC.out, HB1.out]
                exact h2
              have hA1 : B1 = none → k = 0 := by
                intro h
                rw [HB1.out] at h
                have := hA (by simpa [addrAt] using h)
                have := HN.out
                omega
              have hpm : (piece.map bv).length = k := by rw [List.length_map]; exact HPL.out
              have HPM := Lib.hid hpm
              have hrow4 : (out ++ rep piece (j + 1)).length = Lj + k := by rw [rep, ← List.append_assoc, List.length_append, ← hLj, HPL.out]
              have hmap4 : (out ++ rep piece (j + 1)).map bv = (out ++ rep piece j).map bv ++ piece.map bv := by rw [rep, ← List.append_assoc, List.map_append]
              rw [← hLj] at hown
              obtain ⟨ml, hml⟩ : ∃ ml, ml = (out ++ rep piece j).map bv := ⟨_, rfl⟩
              rw [← hml] at hown hmap4
              obtain ⟨Bu, cu, rfl, _, _, _, _, _⟩ := own_shape hown
              have HR4 := Lib.hid hrow4
              have HM4 := Lib.hid hmap4
              have HKO := Lib.hid hko
              have HKP := Lib.hid hkp
              have HBO := Lib.hid hbo
              have HBSR := Lib.hid hbsr
              have HPO := Lib.hid hpo
              have HMO := Lib.hid hmo
              clear hLj hrow4 hmap4 hml hpm hko hkp hbo hbr hbsr hpo hmo
              have hz := hBr.size
              gi_wp2_with (gi_at_builtin; refine wpListIn_plainly (by kernel_rfl) ?_; refine wpList_join elemB rfl _ _ rfl w.heap.size _ _ _ _ _ _ (piece.map bv) w rfl rfl hA1 HPM.out hlr (bv_one _) hown hBr hz (by omega) (by omega) ?_)
              intro v4 w4 hown4 hb4 hg4 _
              obtain ⟨pb1, pb2, pb3, pb4⟩ := Boxed.put HBO.out (by decide) hown hown4 hg4
              have pk := Kps.append (T := 110) hown (Nat.le_refl _) (by decide) HBSR.out (by decide) hg4 hz
              have pp := (Row.kept HPO.out (by decide) hown hg4).far (p := ⟨w1.heap.size, 0, none⟩) (show w1.heap.size + 1 ≠ w1.heap.size by omega) v4
              have pm := (Row.kept HMO.out (by decide) hown hg4).far (p := ⟨w1.heap.size, 0, none⟩) (show w.heap.size ≠ w1.heap.size by omega) v4
              obtain ⟨B4, c4, rfl, _, _, _, _, _⟩ := own_shape hown4
              have hcw := pb1.cell
              have hfw := pb1.frozen
              have hrel : InRel w1.heap.size t (M : Int) (P : Int) out piece w W (.int .i64 ((j + 1 : Nat) : Int)) (w4.setCell ⟨w1.heap.size, 0, none⟩ (.slice B4 (Lj + k) c4)) :=
                ⟨j + 1, _, rfl, hjt, pb2, by rw [HR4.out, HM4.out]; exact pb3, pp, pm, HKO.out.trans pb4, (HKP.out.trans pk).trans (Kps.set pb1 (by decide) (by omega) (by omega) _)⟩
              have HREL := Lib.hid hrel
              clear pb1 pb2 pb3 pb4 pk pp pm hown4 hg4 hown hBr hz hlr hA1 hb4 hrel hco hx0
              go_wp2
              refine goesOn_normal ?_
              gi_wp2
              go_roundw
              case rel => exact HREL.out
              case measure => simp [intOf]; omega
            · obtain rfl : j = t := by omega
              have hjti : ¬ (j : Int) < (j : Int) := by omega
              have hcont : scont (pre ++ [⟨a, hS⟩]) = out ++ rep piece j := by rw [scont_snoc, ← HOUT.out, HPC.out, HT.out]
              have hpos : (spos (pre ++ [⟨a, hS⟩]) : Int) = (P : Int) + ((1 + k : Nat) : Int) := by rw [spos_snoc, ← HP.out, HK.out]; exact Int.natCast_add _ _
              have hfew : Few M (pre ++ [⟨a, hS⟩]) := HF.out.snoc (by rw [← HOUT.out, ← HL.out]; exact hLM) ⟨a, hS⟩
              have HCT := Lib.hid hcont
              have HPS := Lib.hid hpos
              have HFW := Lib.hid hfew
              have HKO := Lib.hid hko
              have HKP := Lib.hid hkp
              have HBO := Lib.hid hbo
              have HBSR := Lib.hid hbsr
              have HPO := Lib.hid hpo
              have HMO := Lib.hid hmo
              have HBR := Lib.hid hbr
              have HOWN := Lib.hid hown
              have HBW := Lib.hid hBr
              clear hcont hpos hfew hko hkp hbo hbsr hpo hmo hbr hown hBr hLj hco hx0
              gi_wp2_with fail
              refine wpIn_round_any (by kernel_rfl) (by kernel_rfl) ?_
              refine wpAny_region_list_tail 4 [.is (.int .i64 (P : Int)), .is (.agg #[.slice B1 k (c - a - 1), .int .i64 (j : Int)]), .is (.int .i64 ((1 + k : Nat) : Int)), .is (.int .i64 ((P : Int) + ((1 + k : Nat) : Int)))] [some 34, some 35, some 36, some 37] (by kernel_rfl) (by kernel_rfl) (by kernel_rfl) rfl ⟨?_, ?_, ?_, ?_, trivial⟩ ?_
              · intro ρ W1 hb1 H
                exact gives_load rfl (H.old 8 _ (by kernel_rfl) rfl) Tryz.underlying3 rfl ((HPO.out.below hb1 HPO.out.lt).cell 0) ⟨rfl, Below.refl _ _⟩
              · intro ρ W1 hb1 H
                exact gives_load_row rfl (H.old 9 _ (by kernel_rfl) rfl) Tryz.underlying110 rfl (by kernel_rfl) (HBR.out.below hb1 HBR.out.lt) ⟨rfl, Below.refl _ _⟩
              · intro ρ W1 hb1 H
                have e1 : ρ (.tmp 35) = .agg #[.slice B1 k (c - a - 1), .int .i64 (j : Int)] := H.new 35 1 (by kernel_rfl)
                refine gives_call rfl (fun _ _ => by kernel_rfl) (H.func _) (args := #[.agg #[.slice B1 k (c - a - 1), .int .i64 (j : Int)]]) (by simp [e1]) ?_
                exact (ysize_any _ k _ (.int .i64 (j : Int)) W1 (by omega)).mono fun _ _ h => ⟨_, h.1, rfl, h.2⟩
              · intro ρ W1 hb1 H
                have e1 : ρ (.tmp 34) = .int .i64 (P : Int) := H.new 34 0 (by kernel_rfl)
                have e2 : ρ (.tmp 36) = .int .i64 ((1 + k : Nat) : Int) := H.new 36 2 (by kernel_rfl)
                exact gives_add rfl e1 e2 (by omega) (by omega) ⟨rfl, Below.refl _ _⟩
              · intro vs W1 hb1 hfs
                have f0 : vs 0 = .int .i64 (P : Int) := hfs 0 (by decide)
                have f1 : vs 1 = .agg #[.slice B1 k (c - a - 1), .int .i64 (j : Int)] := hfs 1 (by decide)
                have f2 : vs 2 = .int .i64 ((1 + k : Nat) : Int) := hfs 2 (by decide)
                have f3 : vs 3 = .int .i64 ((P : Int) + ((1 + k : Nat) : Int)) := hfs 3 (by decide)
                clear hfs
                simp only [putAll, Nat.zero_add, Nat.reduceAdd, List.drop_succ_cons, List.drop_zero]
                rw [f0, f1, f2, f3]
                obtain ⟨S, hS2⟩ : ∃ S : Nat, (P : Int) + ((1 + k : Nat) : Int) = (S : Int) := ⟨P + (1 + k), by omega⟩
                rw [hS2]
                have hpo1 := HPO.out.below hb1 HPO.out.lt
                have hcp := hpo1.cell 0
                have hfp := hpo1.free 0
                simp only [List.getElem?_cons_zero] at hcp
                have HPO1 := Lib.hid hpo1
                have HS2 := Lib.hid hS2
                have HB11 := Lib.hid hb1
                clear f0 f1 f2 f3 hS2 hpo1 hb1
                go_wp2
                refine goesOn_normal ?_
                have hu := Kps.set (Bs := w1.heap.size + 2) (T := 110) (n₀ := w.heap.size) (show Boxed W1 (w1.heap.size + 1) 3 (.int .i64 (P : Int)) from HPO1.out) (by decide) (by omega) (by omega) (.int .i64 (S : Int))
                have hown5 := (own_later HOWN.out HB11.out).kept (grownBy_setCell' W1 (w1.heap.size + 1) (.int .i64 (S : Int))) (.inr ((show Boxed W1 (w1.heap.size + 1) 3 (.int .i64 (P : Int)) from HPO1.out).not_row (by decide) (own_later HOWN.out HB11.out)).symm)
                have hkps : Kps (w1.heap.size + 2) 110 w.heap.size W (W1.setCell ⟨w1.heap.size + 1, 0, none⟩ (.int .i64 (S : Int))) := (HKP.out.trans (Kps.of_below HB11.out HBW.out.size)).trans hu
                have HU := Lib.hid hkps
                have HOWN5 := Lib.hid hown5
                clear hu hown5 hkps hcp hfp
                gi_wp2
                refine ⟨((HKO.out.trans (below_others HB11.out)).trans (KeepsOthers.setCell _ _ _)).from _, HU.out, ⟨_, (Row.below HBO.out HB11.out (Row.lt HBO.out)).far (p := ⟨w1.heap.size + 1, 0, none⟩) (show w1.heap.size ≠ w1.heap.size + 1 by omega) _, ?_, trivial⟩, ⟨⟨?_, (HMO.out.below HB11.out HMO.out.lt).far (p := ⟨w1.heap.size + 1, 0, none⟩) (show w.heap.size ≠ w1.heap.size + 1 by omega) _⟩, HU.out.box HBS.out, HB.out.trans HU.out.1⟩, HFW.out⟩
                · rw [HCT.out]; exact HOWN5.out
                · have h := HPO1.out.set_ 0 (.int .i64 (S : Int))
                  rw [HPS.out, HS2.out]
                  exact h
      case done =>
        rintro D xs W hD ⟨a, hch, hal, hns⟩ ⟨⟨v, hv, hrow, _⟩, ⟨⟨hp, hm⟩, hbs, hB⟩, hf⟩ hK
        have hleft := left_chain hch hf
        have hres : (scont xs).length < M → ytake M l = none := fun h => end_none hleft h hns hal
        clear hns
        have hsp : spos xs = a := spos_chain hch
        rw [hsp] at hp
        obtain ⟨m, hmm⟩ : ∃ m, m = scont xs := ⟨_, rfl⟩
        have hrow := hrow
        rw [← hmm] at hleft hres hrow
        have hal' : a ≤ n := by have := HN.out; omega
        obtain ⟨L, hL⟩ : ∃ L, L = m.length := ⟨_, rfl⟩
        rw [← hL] at hrow hres
        obtain ⟨B, cb, rfl, _, _, _, _, _⟩ := own_shape hrow
        have HB := Lib.hid hB
        have HV := Lib.hid hv
        have HP := Lib.hid hp
        have HROW := Lib.hid hrow
        have HLM := Lib.hid hL
        have HKD := Lib.hid hK
        have hc1 := hv.cell
        have hc2 := hm.cell 0
        simp only [List.getElem?_cons_zero] at hc2
        have hDw : w3.heap.size ≤ D := hD
        by_cases hLM : L = M
        · subst hLM
          have hE := Lib.hid (ytakeE_some hM (p := m) (q := l.drop a) (by rw [hL]; rw [hL] at hleft; exact hleft.done))
          obtain ⟨v6, hv6, hi6⟩ := from_named (P := Tryz.prog) (w := W) elemB (k := a) hal' hnc hcm HN.out.symm (hl.below hB) hA
          have HV6 := Lib.hid hv6
          have HI6 := Lib.hid hi6
          have d1 : ((L : Int) != (L : Int)) = false := by simp
          have d2 : ((L : Int) == (L : Int)) = true := by simp
          clear hmm hleft hres hv hm hp hbs hB hrow hL hK hD hv6 hi6
          go_wp2
          refine wp_region_list [.is (.slice B L cb), .is (.slice A n c), .is (.int .i64 (a : Int)), .is v6, .bytes (l.drop a), .is (.slice B L cb), .bytes (l.drop a), .is (.int .i64 0)] [some 42, some 43, some 44, some 45, some 46, some 4, some 5, some 6] (by kernel_rfl) (by kernel_rfl) (by kernel_rfl) rfl ⟨?_, ?_, ?_, ?_, ?_, ?_, ?_, ?_, trivial⟩ ?_
          · intro ρ W1 hb1 H
            exact gives_load rfl (H.old 7 _ (by kernel_rfl) rfl) Tryz.underlying25 rfl ((hb1.cell HV.out.lt).trans HV.out.cell) ⟨rfl, Below.refl _ _⟩
          · intro ρ W1 hb1 H
            exact gives_move rfl (H.old 0 _ (by kernel_rfl) rfl) ⟨rfl, Below.refl _ _⟩
          · intro ρ W1 hb1 H
            exact gives_load rfl (H.old 8 _ (by kernel_rfl) rfl) Tryz.underlying3 rfl ((HP.out.below hb1 HP.out.lt).cell 0) ⟨rfl, Below.refl _ _⟩
          · intro ρ W1 hb1 H
            have e1 : ρ (.tmp 43) = .slice A n c := H.new 43 1 (by kernel_rfl)
            have e2 : ρ (.tmp 44) = .int .i64 (a : Int) := H.new 44 2 (by kernel_rfl)
            exact gives_slice rfl e1 (lo' := some (.int .i64 (a : Int))) (by simp [e2]) (hi' := none) rfl (mx' := none) rfl (HV6.out W1) ⟨rfl, Below.refl _ _⟩
          · intro ρ W1 hb1 H
            have e1 : ρ (.tmp 45) = v6 := H.new 45 3 (by kernel_rfl)
            exact gives_copy elemB rfl (H.const _) e1 (HI6.out.below hb1) (by rw [List.length_drop]; have := HN.out; omega) fun v' w' h1 h2 => ⟨h1, h2⟩
          · intro ρ W1 hb1 H
            exact gives_assign rfl (H.new 42 0 (by kernel_rfl)) ⟨rfl, Below.refl _ _⟩
          · intro ρ W1 hb1 H
            have e1 : IsB (l.drop a) (ρ (.tmp 46)) W1 := H.new 46 4 (by kernel_rfl)
            exact gives_assign rfl rfl ⟨e1, Below.refl _ _⟩
          · intro ρ W1 hb1 H
            exact gives_assign rfl (H.const _) ⟨rfl, Below.refl _ _⟩
          · intro vs W1 hb1 hfs
            have f5 : vs 5 = .slice B L cb := hfs 5 (by decide)
            have f6 : IsB (l.drop a) (vs 6) W1 := hfs 6 (by decide)
            have f7 : vs 7 = .int .i64 0 := hfs 7 (by decide)
            clear hfs
            simp only [putAll, Nat.zero_add, Nat.reduceAdd]
            rw [f5, f7]
            generalize vs 0 = z0
            generalize vs 1 = z1
            generalize vs 2 = z2
            generalize vs 3 = z3
            generalize vs 4 = z4
            revert f6
            generalize vs 6 = z6
            intro f6
            have F6 := Lib.hid f6
            have HB11 := Lib.hid hb1
            have hDlt := (Array.getElem?_eq_some_iff.1 HKD.out).1
            have hKD1 : W1.heap[D]? = some (.deferred (some [])) := (hb1.block D hDlt).trans HKD.out
            have HKD1 := Lib.hid hKD1
            clear f5 f6 f7 hb1 hKD1
            go_wp2
            go_simp
            refine ⟨by simp, .inl ⟨_, _, rfl, run_takeDeferred HKD1.out, ?_⟩⟩
            refine ⟨_, results_tmp3 rfl _ _ _, ?_⟩
            rw [hE.out]
            exact ⟨_, _, rfl, isB_turn (isB_own (own_later HROW.out HB11.out)) _ HKD1.out rfl, isB_turn F6.out _ HKD1.out rfl, (HB.out.trans (HB11.out.mono HB.out.size)).trans (belowK_b (w := w) (Nat.le_refl _) W1 D _ _ (by omega) HKD1.out rfl rfl)⟩
        · have hE := Lib.hid (ytakeE_none hM (l := l) (by
            rcases Nat.lt_or_ge L M with h | h
            · exact hres h
            · exact hleft.over (by omega)))
          have d1 : ((L : Int) != (M : Int)) = true := by simp; omega
          have d2 : ((L : Int) == (M : Int)) = false := by simp; omega
          clear hmm hleft hres hv hm hp hbs hB hrow hL hK hD
          go_wp2
          refine ⟨by simp, .inl ⟨_, _, rfl, run_takeDeferred HKD.out, ?_⟩⟩
          refine ⟨_, results_tmp3 rfl _ _ _, ?_⟩
          rw [hE.out]
          exact RetBB.nil _ (HB.out.trans (belowK_b (w := w) (Nat.le_refl _) W D _ _ (by omega) HKD.out rfl rfl))
      case stop =>
        rintro D x s W hD ⟨pre', y', hs', hch⟩ ⟨rfl, pre, y, hs, hML, ⟨v, hv, hrow, _⟩, ⟨⟨hp, hm⟩, hbs, hB⟩, hf⟩ hK
        have hpp : pre' = pre := List.append_inj_left' (hs'.symm.trans hs) rfl
        subst hpp
        have hal := Nat.le_of_lt y'.2.1
        have hleft := left_chain hch hf
        have hres : (scont pre').length < M → ytake M l = none := fun h => absurd h (by omega)
        obtain ⟨a, ha⟩ : ∃ a, a = y'.1 := ⟨_, rfl⟩
        rw [← ha] at hch hal hleft
        clear hs hs' hML ha
        have hsp : spos pre' = a := spos_chain hch
        rw [hsp] at hp
        obtain ⟨m, hmm⟩ : ∃ m, m = scont pre' := ⟨_, rfl⟩
        have hrow := hrow
        rw [← hmm] at hleft hres hrow
        have hal' : a ≤ n := by have := HN.out; omega
        obtain ⟨L, hL⟩ : ∃ L, L = m.length := ⟨_, rfl⟩
        rw [← hL] at hrow hres
        obtain ⟨B, cb, rfl, _, _, _, _, _⟩ := own_shape hrow
        have HB := Lib.hid hB
        have HV := Lib.hid hv
        have HP := Lib.hid hp
        have HROW := Lib.hid hrow
        have HLM := Lib.hid hL
        have HKD := Lib.hid hK
        have hc1 := hv.cell
        have hc2 := hm.cell 0
        simp only [List.getElem?_cons_zero] at hc2
        have hDw : w3.heap.size ≤ D := hD
        by_cases hLM : L = M
        · subst hLM
          have hE := Lib.hid (ytakeE_some hM (p := m) (q := l.drop a) (by rw [hL]; rw [hL] at hleft; exact hleft.done))
          obtain ⟨v6, hv6, hi6⟩ := from_named (P := Tryz.prog) (w := W) elemB (k := a) hal' hnc hcm HN.out.symm (hl.below hB) hA
          have HV6 := Lib.hid hv6
          have HI6 := Lib.hid hi6
          have d1 : ((L : Int) != (L : Int)) = false := by simp
          have d2 : ((L : Int) == (L : Int)) = true := by simp
          clear hmm hleft hres hv hm hp hbs hB hrow hL hK hD hv6 hi6
          gi_wp2
          go_wp2
          refine wp_region_list [.is (.slice B L cb), .is (.slice A n c), .is (.int .i64 (a : Int)), .is v6, .bytes (l.drop a), .is (.slice B L cb), .bytes (l.drop a), .is (.int .i64 0)] [some 42, some 43, some 44, some 45, some 46, some 4, some 5, some 6] (by kernel_rfl) (by kernel_rfl) (by kernel_rfl) rfl ⟨?_, ?_, ?_, ?_, ?_, ?_, ?_, ?_, trivial⟩ ?_
          · intro ρ W1 hb1 H
            exact gives_load rfl (H.old 7 _ (by kernel_rfl) rfl) Tryz.underlying25 rfl ((hb1.cell HV.out.lt).trans HV.out.cell) ⟨rfl, Below.refl _ _⟩
          · intro ρ W1 hb1 H
            exact gives_move rfl (H.old 0 _ (by kernel_rfl) rfl) ⟨rfl, Below.refl _ _⟩
          · intro ρ W1 hb1 H
            exact gives_load rfl (H.old 8 _ (by kernel_rfl) rfl) Tryz.underlying3 rfl ((HP.out.below hb1 HP.out.lt).cell 0) ⟨rfl, Below.refl _ _⟩
          · intro ρ W1 hb1 H
            have e1 : ρ (.tmp 43) = .slice A n c := H.new 43 1 (by kernel_rfl)
            have e2 : ρ (.tmp 44) = .int .i64 (a : Int) := H.new 44 2 (by kernel_rfl)
            exact gives_slice rfl e1 (lo' := some (.int .i64 (a : Int))) (by simp [e2]) (hi' := none) rfl (mx' := none) rfl (HV6.out W1) ⟨rfl, Below.refl _ _⟩
          · intro ρ W1 hb1 H
            have e1 : ρ (.tmp 45) = v6 := H.new 45 3 (by kernel_rfl)
            exact gives_copy elemB rfl (H.const _) e1 (HI6.out.below hb1) (by rw [List.length_drop]; have := HN.out; omega) fun v' w' h1 h2 => ⟨h1, h2⟩
          · intro ρ W1 hb1 H
            exact gives_assign rfl (H.new 42 0 (by kernel_rfl)) ⟨rfl, Below.refl _ _⟩
          · intro ρ W1 hb1 H
            have e1 : IsB (l.drop a) (ρ (.tmp 46)) W1 := H.new 46 4 (by kernel_rfl)
            exact gives_assign rfl rfl ⟨e1, Below.refl _ _⟩
          · intro ρ W1 hb1 H
            exact gives_assign rfl (H.const _) ⟨rfl, Below.refl _ _⟩
          · intro vs W1 hb1 hfs
            have f5 : vs 5 = .slice B L cb := hfs 5 (by decide)
            have f6 : IsB (l.drop a) (vs 6) W1 := hfs 6 (by decide)
            have f7 : vs 7 = .int .i64 0 := hfs 7 (by decide)
            clear hfs
            simp only [putAll, Nat.zero_add, Nat.reduceAdd]
            rw [f5, f7]
            generalize vs 0 = z0
            generalize vs 1 = z1
            generalize vs 2 = z2
            generalize vs 3 = z3
            generalize vs 4 = z4
            revert f6
            generalize vs 6 = z6
            intro f6
            have F6 := Lib.hid f6
            have HB11 := Lib.hid hb1
            have hDlt := (Array.getElem?_eq_some_iff.1 HKD.out).1
            have hKD1 : W1.heap[D]? = some (.deferred (some [])) := (hb1.block D hDlt).trans HKD.out
            have HKD1 := Lib.hid hKD1
            clear f5 f6 f7 hb1 hKD1
            go_wp2
            go_simp
            refine ⟨by simp, .inl ⟨_, _, rfl, run_takeDeferred HKD1.out, ?_⟩⟩
            refine ⟨_, results_tmp3 rfl _ _ _, ?_⟩
            rw [hE.out]
            exact ⟨_, _, rfl, isB_turn (isB_own (own_later HROW.out HB11.out)) _ HKD1.out rfl, isB_turn F6.out _ HKD1.out rfl, (HB.out.trans (HB11.out.mono HB.out.size)).trans (belowK_b (w := w) (Nat.le_refl _) W1 D _ _ (by omega) HKD1.out rfl rfl)⟩
        · have hE := Lib.hid (ytakeE_none hM (l := l) (by
            rcases Nat.lt_or_ge L M with h | h
            · exact hres h
            · exact hleft.over (by omega)))
          have d1 : ((L : Int) != (M : Int)) = true := by simp; omega
          have d2 : ((L : Int) == (M : Int)) = false := by simp; omega
          clear hmm hleft hres hv hm hp hbs hB hrow hL hK hD
          gi_wp2
          go_wp2
          refine ⟨by simp, .inl ⟨_, _, rfl, run_takeDeferred HKD.out, ?_⟩⟩
          refine ⟨_, results_tmp3 rfl _ _ _, ?_⟩
          rw [hE.out]
          exact RetBB.nil _ (HB.out.trans (belowK_b (w := w) (Nat.le_refl _) W D _ _ (by omega) HKD.out rfl rfl))
end Go.Proofs.YtlibofmpnlfelaaGreatDoor
