
/- Runs of bytes (layer 5), as plain mathematics: parts of rows of bytes, laid down and taken. -/

namespace Go.Proofs.Ytffglnccpbbclaa

/-- How many bytes at the front are as the first one: 130 at most. -/
def ysame : List UInt8 → Nat
  | [] => 0
  | x :: l => 1 + min 129 (l.takeWhile (· == x)).length
theorem ysame_cons (x : UInt8) (l : List UInt8) : ysame (x :: l) = 1 + min 129 (l.takeWhile (· == x)).length := rfl
theorem takeWhile_len {α : Type} (p : α → Bool) : ∀ l : List α, (l.takeWhile p).length ≤ l.length
  | [] => by simp
  | x :: l => by
    rw [List.takeWhile_cons]
    split
    · have := takeWhile_len p l; simp; omega
    · simp
theorem ysame_le (l : List UInt8) : ysame l ≤ l.length := by
  cases l with
  | nil => simp [ysame]
  | cons x l => have := takeWhile_len (· == x) l; rw [ysame_cons, List.length_cons]; omega
theorem ysame_130 (l : List UInt8) : ysame l ≤ 130 := by
  cases l with
  | nil => simp [ysame]
  | cons x l => rw [ysame_cons]; omega
theorem ysame_pos {l : List UInt8} (h : l ≠ []) : 1 ≤ ysame l := by
  cases l with
  | nil => exact absurd rfl h
  | cons x l => rw [ysame_cons]; omega
theorem takeWhile_take {α : Type} (p : α → Bool) : ∀ l : List α, ∀ k, k ≤ (l.takeWhile p).length → ∀ y ∈ l.take k, p y = true
  | [], _, _, _, hy => by simp at hy
  | x :: l, k, h, y, hy => by
    rw [List.takeWhile_cons] at h
    split at h
    · rename_i hx
      cases k with
      | zero => simp at hy
      | succ k =>
        simp at h
        rw [List.take_succ_cons, List.mem_cons] at hy
        rcases hy with rfl | hy
        · exact hx
        · exact takeWhile_take p l k h y hy
    · simp at h; subst h; simp at hy
/-- What ysame counts: so many bytes at the front are all x. -/
theorem ysame_take (x : UInt8) (l : List UInt8) : (x :: l).take (ysame (x :: l)) = List.replicate (ysame (x :: l)) x := by
  have h : ∀ y ∈ (x :: l).take (ysame (x :: l)), y = x := by
    intro y hy
    rw [ysame_cons, Nat.add_comm, List.take_succ_cons, List.mem_cons] at hy
    rcases hy with rfl | hy
    · rfl
    · have := takeWhile_take (· == x) l _ (Nat.min_le_right _ _) y hy
      simpa using this
  rw [List.eq_replicate_iff]
  exact ⟨by rw [List.length_take]; have := ysame_le (x :: l); omega, h⟩
/-- How many bytes belong to a list that begins here: up to the next run, or to 128. (k: how many there are already.) -/
def ylist : List UInt8 → Nat → Nat
  | [], k => k
  | x :: l, k => if k < 128 ∧ ysame (x :: l) < 3 then ylist l (k + 1) else k
theorem ylist_ge : ∀ (l : List UInt8) (k : Nat), k ≤ ylist l k
  | [], _ => Nat.le_refl _
  | x :: l, k => by
    rw [ylist]
    split
    · have := ylist_ge l (k + 1); omega
    · exact Nat.le_refl _
theorem ylist_le : ∀ (l : List UInt8) (k : Nat), ylist l k ≤ k + l.length
  | [], _ => by simp [ylist]
  | x :: l, k => by
    rw [ylist]
    split
    · have := ylist_le l (k + 1); simp; omega
    · omega
theorem ylist_128 : ∀ (l : List UInt8) (k : Nat), k ≤ 128 → ylist l k ≤ 128
  | [], _, h => h
  | x :: l, k, h => by
    rw [ylist]
    split
    · exact ylist_128 l (k + 1) (by omega)
    · exact h
theorem ylist_pos {l : List UInt8} (h : l ≠ []) (h3 : ysame l < 3) : 1 ≤ ylist l 0 := by
  cases l with
  | nil => exact absurd rfl h
  | cons x l => rw [ylist, if_pos ⟨by omega, h3⟩]; exact ylist_ge l 1
/-- A row of bytes as parts. (The first number: more rounds than there are bytes.) -/
def yputs : Nat → List UInt8 → List UInt8
  | 0, _ => []
  | _ + 1, [] => []
  | f + 1, x :: l => if 3 ≤ ysame (x :: l) then UInt8.ofNat (ysame (x :: l) - 3) :: x :: yputs f ((x :: l).drop (ysame (x :: l)))
    else UInt8.ofNat (256 - ylist (x :: l) 0) :: ((x :: l).take (ylist (x :: l) 0) ++ yputs f ((x :: l).drop (ylist (x :: l) 0)))
theorem yputs_more : ∀ (f g : Nat) (l : List UInt8), l.length ≤ f → l.length ≤ g → yputs f l = yputs g l
  | 0, 0, _, _, _ => rfl
  | 0, g + 1, l, h, _ => by obtain rfl : l = [] := List.eq_nil_of_length_eq_zero (by omega); rfl
  | f + 1, 0, l, _, h => by obtain rfl : l = [] := List.eq_nil_of_length_eq_zero (by omega); rfl
  | f + 1, g + 1, [], _, _ => rfl
  | f + 1, g + 1, x :: l, h, h' => by
    have h1 := ysame_pos (l := x :: l) (by simp)
    rw [yputs, yputs]
    split
    · rw [yputs_more f g _ (by rw [List.length_drop]; omega) (by rw [List.length_drop]; omega)]
    · rename_i h3
      have h2 := ylist_pos (l := x :: l) (by simp) (by omega)
      rw [yputs_more f g _ (by rw [List.length_drop]; omega) (by rw [List.length_drop]; omega)]
def yput (l : List UInt8) : List UInt8 := yputs l.length l
theorem yput_nil : yput [] = [] := rfl
theorem yput_run (x : UInt8) (l : List UInt8) (h : 3 ≤ ysame (x :: l)) : yput (x :: l) = UInt8.ofNat (ysame (x :: l) - 3) :: x :: yput ((x :: l).drop (ysame (x :: l))) := by
  unfold yput
  rw [List.length_cons, yputs, if_pos h, yputs_more _ _ _ (by rw [List.length_drop, List.length_cons]; omega) (Nat.le_refl _)]
theorem yput_list (x : UInt8) (l : List UInt8) (h : ysame (x :: l) < 3) : yput (x :: l) = UInt8.ofNat (256 - ylist (x :: l) 0) :: ((x :: l).take (ylist (x :: l) 0) ++ yput ((x :: l).drop (ylist (x :: l) 0))) := by
  have h2 := ylist_pos (l := x :: l) (by simp) h
  unfold yput
  rw [List.length_cons, yputs, if_neg (by omega), yputs_more _ _ _ (by rw [List.length_drop, List.length_cons]; omega) (Nat.le_refl _)]
theorem yput_len : ∀ (n : Nat) (l : List UInt8), l.length ≤ n → (yput l).length ≤ 2 * l.length
  | _, [], _ => by simp [yput_nil]
  | 0, x :: l, h => by simp at h
  | n + 1, x :: l, h => by
    have h1 := ysame_pos (l := x :: l) (by simp)
    have h2 := ysame_le (x :: l)
    by_cases h3 : 3 ≤ ysame (x :: l)
    · rw [yput_run x l h3]
      have := yput_len n ((x :: l).drop (ysame (x :: l))) (by rw [List.length_drop]; simp at h ⊢; omega)
      rw [List.length_drop] at this
      simp only [List.length_cons] at *
      omega
    · have h5 := ylist_pos (l := x :: l) (by simp) (by omega)
      have h6 := ylist_le (x :: l) 0
      rw [yput_list x l (by omega)]
      have := yput_len n ((x :: l).drop (ylist (x :: l) 0)) (by rw [List.length_drop]; simp at h ⊢; omega)
      rw [List.length_drop] at this
      rw [List.length_cons, List.length_append, List.length_take]
      simp only [List.length_cons] at *
      omega
/-- So many bytes out of parts, and what stands behind. -/
def ytakes : Nat → Nat → List UInt8 → Option (List UInt8 × List UInt8)
  | _, 0, l => some ([], l)
  | 0, _ + 1, _ => none
  | _ + 1, _ + 1, [] => none
  | f + 1, m + 1, c :: l =>
    if c.toNat < 128 then
      match l with
      | [] => none
      | x :: r => if m + 1 < c.toNat + 3 then none else (ytakes f (m + 1 - (c.toNat + 3)) r).map fun p => (List.replicate (c.toNat + 3) x ++ p.1, p.2)
    else if l.length < 256 - c.toNat then none else if m + 1 < 256 - c.toNat then none else (ytakes f (m + 1 - (256 - c.toNat)) (l.drop (256 - c.toNat))).map fun p => (l.take (256 - c.toNat) ++ p.1, p.2)
theorem ytakes_cons (f m : Nat) (c : UInt8) (l : List UInt8) : ytakes (f + 1) (m + 1) (c :: l) =
    if c.toNat < 128 then
      match l with
      | [] => none
      | x :: r => if m + 1 < c.toNat + 3 then none else (ytakes f (m + 1 - (c.toNat + 3)) r).map fun p => (List.replicate (c.toNat + 3) x ++ p.1, p.2)
    else if l.length < 256 - c.toNat then none else if m + 1 < 256 - c.toNat then none else (ytakes f (m + 1 - (256 - c.toNat)) (l.drop (256 - c.toNat))).map fun p => (l.take (256 - c.toNat) ++ p.1, p.2) := rfl
theorem ytakes_more : ∀ (f g m : Nat) (l : List UInt8), l.length ≤ f → l.length ≤ g → ytakes f m l = ytakes g m l
  | 0, 0, _, _, _, _ => rfl
  | _, _, 0, _, _, _ => by simp [ytakes]
  | 0, g + 1, m + 1, l, h, _ => by obtain rfl : l = [] := List.eq_nil_of_length_eq_zero (by omega); rfl
  | f + 1, 0, m + 1, l, _, h => by obtain rfl : l = [] := List.eq_nil_of_length_eq_zero (by omega); rfl
  | f + 1, g + 1, m + 1, [], _, _ => rfl
  | f + 1, g + 1, m + 1, c :: l, h, h' => by
    have hc := c.toNat_lt
    simp only [List.length_cons] at h h'
    rw [ytakes_cons, ytakes_cons]
    split
    · cases l with
      | nil => rfl
      | cons x r => simp only [List.length_cons] at h h'; simp only []; rw [ytakes_more f g _ r (by omega) (by omega)]
    · rw [ytakes_more f g _ (l.drop (256 - c.toNat)) (by rw [List.length_drop]; omega) (by rw [List.length_drop]; omega)]
def ytake (m : Nat) (l : List UInt8) : Option (List UInt8 × List UInt8) := ytakes l.length m l
theorem ytake_zero (l : List UInt8) : ytake 0 l = some ([], l) := by unfold ytake; cases l.length <;> rfl
theorem ytake_none {m : Nat} (h : 0 < m) : ytake m [] = none := by
  obtain ⟨k, rfl⟩ : ∃ k, m = k + 1 := ⟨m - 1, by omega⟩
  rfl
theorem ytake_one {m : Nat} (h : 0 < m) (c : UInt8) : ytake m [c] = none := by
  obtain ⟨k, rfl⟩ : ∃ k, m = k + 1 := ⟨m - 1, by omega⟩
  have hc := c.toNat_lt
  unfold ytake
  rw [show [c].length = 1 from rfl, ytakes_cons]
  split
  · rfl
  · rw [if_pos (by simp; omega)]
theorem ytake_run {m : Nat} (h : 0 < m) {c : UInt8} (hc : c.toNat < 128) (x : UInt8) (r : List UInt8) :
    ytake m (c :: x :: r) = if m < c.toNat + 3 then none else (ytake (m - (c.toNat + 3)) r).map fun p => (List.replicate (c.toNat + 3) x ++ p.1, p.2) := by
  obtain ⟨k, rfl⟩ : ∃ k, m = k + 1 := ⟨m - 1, by omega⟩
  unfold ytake
  rw [List.length_cons, ytakes_cons, if_pos hc]
  simp only []
  rw [ytakes_more _ r.length _ r (by simp) (Nat.le_refl _)]
theorem ytake_list {m : Nat} (h : 0 < m) {c : UInt8} (hc : ¬ c.toNat < 128) (l : List UInt8) :
    ytake m (c :: l) = if l.length < 256 - c.toNat then none else if m < 256 - c.toNat then none else (ytake (m - (256 - c.toNat)) (l.drop (256 - c.toNat))).map fun p => (l.take (256 - c.toNat) ++ p.1, p.2) := by
  obtain ⟨k, rfl⟩ : ∃ k, m = k + 1 := ⟨m - 1, by omega⟩
  have := c.toNat_lt
  unfold ytake
  rw [List.length_cons, ytakes_cons, if_neg hc]
  rw [ytakes_more _ (l.drop (256 - c.toNat)).length _ _ (by rw [List.length_drop]; omega) (Nat.le_refl _)]
theorem ytakes_len : ∀ (f m : Nat) (l x r : List UInt8), ytakes f m l = some (x, r) → x.length = m ∧ r.length ≤ l.length
  | _, 0, l, x, r, h => by
    have : ytakes ‹Nat› 0 l = some ([], l) := by cases ‹Nat› <;> rfl
    rw [this] at h
    injection h with h
    injection h with h1 h2
    subst h1 h2
    simp
  | 0, m + 1, l, x, r, h => by cases l <;> cases h
  | f + 1, m + 1, [], x, r, h => by cases h
  | f + 1, m + 1, c :: l, x, r, h => by
    have hc := c.toNat_lt
    rw [ytakes_cons] at h
    by_cases h1 : c.toNat < 128
    · rw [if_pos h1] at h
      cases l with
      | nil => cases h
      | cons y l =>
        simp only [] at h
        by_cases h2 : m + 1 < c.toNat + 3
        · rw [if_pos h2] at h; cases h
        · rw [if_neg h2] at h
          obtain ⟨⟨x', r'⟩, h3, h4⟩ := Option.map_eq_some_iff.1 h
          obtain ⟨e1, e2⟩ := ytakes_len f _ l x' r' h3
          injection h4 with h4 h5
          subst h4 h5
          simp only [List.length_append, List.length_replicate, List.length_cons]
          omega
    · rw [if_neg h1] at h
      by_cases h0 : l.length < 256 - c.toNat
      · rw [if_pos h0] at h; cases h
      · rw [if_neg h0] at h
        by_cases h2 : m + 1 < 256 - c.toNat
        · rw [if_pos h2] at h; cases h
        · rw [if_neg h2] at h
          obtain ⟨⟨x', r'⟩, h3, h4⟩ := Option.map_eq_some_iff.1 h
          obtain ⟨e1, e2⟩ := ytakes_len f _ _ x' r' h3
          injection h4 with h4 h5
          subst h4 h5
          rw [List.length_drop] at e2
          simp only [List.length_append, List.length_take, List.length_cons]
          omega
theorem ytake_len {m : Nat} {l x r : List UInt8} (h : ytake m l = some (x, r)) : x.length = m ∧ r.length ≤ l.length := ytakes_len _ _ _ _ _ h
/-- P5.3: what was laid down is taken as it was, and what stands behind goes on. -/
theorem ytake_yput : ∀ (n : Nat) (l b : List UInt8) (j : Nat), l.length ≤ n → ytake (l.length + j) (yput l ++ b) = (ytake j b).map fun p => (l ++ p.1, p.2)
  | _, [], b, j, _ => by simp [yput_nil]
  | 0, x :: l, b, _, h => by simp at h
  | n + 1, x :: l, b, j, h => by
    have h1 := ysame_pos (l := x :: l) (by simp)
    have h2 := ysame_le (x :: l)
    have h4 := ysame_130 (x :: l)
    have h0 : 0 < (x :: l).length + j := by simp; omega
    by_cases h3 : 3 ≤ ysame (x :: l)
    · rw [yput_run x l h3, List.cons_append, List.cons_append]
      have hc : (UInt8.ofNat (ysame (x :: l) - 3)).toNat = ysame (x :: l) - 3 := by rw [UInt8.toNat_ofNat']; omega
      rw [ytake_run h0 (by rw [hc]; omega), hc, if_neg (by omega), show ysame (x :: l) - 3 + 3 = ysame (x :: l) by omega]
      have hl : (x :: l).length + j - ysame (x :: l) = ((x :: l).drop (ysame (x :: l))).length + j := by rw [List.length_drop]; omega
      rw [hl, ytake_yput n _ b j (by rw [List.length_drop, List.length_cons]; simp at h; omega), Option.map_map]
      congr 1
      funext p
      simp only [Function.comp]
      rw [← List.append_assoc, ← ysame_take, List.take_append_drop]
    · have h5 := ylist_pos (l := x :: l) (by simp) (by omega)
      have h6 := ylist_le (x :: l) 0
      have h7 := ylist_128 (x :: l) 0 (by omega)
      rw [yput_list x l (by omega), List.cons_append]
      have hc : (UInt8.ofNat (256 - ylist (x :: l) 0)).toNat = 256 - ylist (x :: l) 0 := by rw [UInt8.toNat_ofNat']; omega
      have hk : 256 - (256 - ylist (x :: l) 0) = ylist (x :: l) 0 := by omega
      have ht : ((x :: l).take (ylist (x :: l) 0)).length = ylist (x :: l) 0 := by rw [List.length_take]; omega
      rw [ytake_list h0 (by rw [hc]; omega), hc, hk, if_neg (by rw [List.length_append, List.length_append, ht]; omega), if_neg (by omega)]
      rw [List.append_assoc, List.drop_append_of_le_length (by omega), List.take_append_of_le_length (by omega)]
      rw [List.drop_of_length_le (by omega), List.nil_append, List.take_of_length_le (by omega)]
      have hl : (x :: l).length + j - ylist (x :: l) 0 = ((x :: l).drop (ylist (x :: l) 0)).length + j := by rw [List.length_drop]; omega
      rw [hl, ytake_yput n _ b j (by rw [List.length_drop, List.length_cons]; simp at h; omega), Option.map_map]
      congr 1
      funext p
      simp only [Function.comp]
      rw [← List.append_assoc, List.take_append_drop]
theorem ytake_back (l b : List UInt8) : ytake l.length (yput l ++ b) = some (l, b) := by
  have := ytake_yput _ l b 0 (Nat.le_refl _)
  rw [ytake_zero] at this
  simpa using this
theorem ytake_more (l : List UInt8) : ytake (l.length + 1) (yput l) = none := by
  have := ytake_yput _ l [] 1 (Nat.le_refl _)
  rw [ytake_none (by omega), List.append_nil] at this
  simpa using this
end Go.Proofs.Ytffglnccpbbclaa
