
/- The plain mathematics of widths. -/

import Derived.Lib.BitFns

import Derived.Lib.ItoaNum

namespace Go.Proofs.YtiapopaggpnceaaDoor

def wtab : List Int := [1, 2, 3, 4, 5, 6, 7, 8, 9, 10, 11, 12, 13, 14, 15, 16, 17, 18, 19, 20, 21, 22, 23, 24, 26, 28, 30, 32, 40, 48, 56, 64]
/-- The width at a place of the table. -/
def wat (i : Nat) : Int := wtab.getD i 0
/-- P2.1: a code's width, a width's code, the closest width. -/
def wof (c : Int) : Int := if 0 ≤ c ∧ c < 32 then wat c.toNat else 0
def wcode (x : Int) : Int := match (List.range 32).find? fun i => wat i == x with | some i => (i : Int) | none => -1
def wclosest (b : Int) : Int := match (List.range 32).find? fun i => decide (b ≤ wat i) with | some i => wat i | none => 0
theorem wof_in {c : Nat} (h : c < 32) : wof (c : Int) = wat c := if_pos (by omega)
theorem wof_out {c : Int} (h : c < 0 ∨ 32 ≤ c) : wof c = 0 := if_neg (by omega)
theorem wat_get {i : Nat} (h : i < 32) : wtab[i]? = some (wat i) := by
  have hl : wtab.length = 32 := rfl
  unfold wat
  rw [List.getD_eq_getElem?_getD, List.getElem?_eq_getElem (by omega)]; rfl
theorem wat_bd (i : Nat) : 0 ≤ wat i ∧ wat i ≤ 64 := by
  by_cases h : i < 32
  · exact (show ∀ i : Fin 32, 0 ≤ wat i ∧ wat i ≤ 64 by decide +kernel) ⟨i, h⟩
  · unfold wat
    rw [List.getD_eq_getElem?_getD, List.getElem?_eq_none (by show 32 ≤ i; omega)]
    simp
theorem wof_bd (c : Int) : 0 ≤ wof c ∧ wof c ≤ 64 := by
  unfold wof; split
  · exact wat_bd _
  · omega
theorem wcode_at {x : Int} {k : Nat} (hk : k < 32) (h : wat k = x) (hb : ∀ j, j < k → wat j ≠ x) : wcode x = k := by
  have e : (List.range 32).find? (fun i => wat i == x) = some k := List.find?_range_eq_some.2 ⟨by simpa using h, by simpa using hk, fun j hj => by simpa using hb j hj⟩
  unfold wcode; rw [e]
theorem wcode_none {x : Int} (hb : ∀ j, j < 32 → wat j ≠ x) : wcode x = -1 := by
  have e : (List.range 32).find? (fun i => wat i == x) = none := by
    rw [List.find?_eq_none]; intro j hj; simpa using hb j (by simpa using hj)
  unfold wcode; rw [e]
theorem wclosest_at {b : Int} {k : Nat} (hk : k < 32) (h : b ≤ wat k) (hb : ∀ j, j < k → wat j < b) : wclosest b = wat k := by
  have e : (List.range 32).find? (fun i => decide (b ≤ wat i)) = some k := List.find?_range_eq_some.2 ⟨by simpa using h, by simpa using hk, fun j hj => by simpa using hb j hj⟩
  unfold wclosest; rw [e]
theorem wclosest_none {b : Int} (hb : ∀ j, j < 32 → wat j < b) : wclosest b = 0 := by
  have e : (List.range 32).find? (fun i => decide (b ≤ wat i)) = none := by
    rw [List.find?_eq_none]; intro j hj; simpa using hb j (by simpa using hj)
  unfold wclosest; rw [e]
theorem wclosest_bd (b : Int) : 0 ≤ wclosest b ∧ wclosest b ≤ 64 := by
  unfold wclosest; split
  · exact wat_bd _
  · omega
theorem wcode_bd (x : Int) : -1 ≤ wcode x ∧ wcode x ≤ 31 := by
  unfold wcode
  split
  · rename_i i h
    have h1 : i ∈ List.range 32 := List.mem_of_find?_eq_some h
    rw [List.mem_range] at h1
    omega
  · omega
/-- The reference's rule for a code. -/
theorem rof_eq : ∀ i : Fin 32, wat i = if i.val < 24 then (i.val : Int) + 1 else if i.val < 28 then 24 + 2 * ((i.val : Int) - 23) else 32 + 8 * ((i.val : Int) - 27) := by decide +kernel

/-- P2.3. -/
theorem wback : ∀ x : Fin 32, wcode (wof (x.val : Int)) = x.val ∧ wclosest (wof (x.val : Int)) = wof (x.val : Int) ∧ 1 ≤ wof (x.val : Int) := by decide +kernel
theorem wrise : ∀ x y : Fin 32, decide ((x.val : Int) < y.val) = decide (wof (x.val : Int) < wof (y.val : Int)) := by decide +kernel
theorem wroom : ∀ n : Fin 65, 1 ≤ wclosest (n.val : Int) ∧ (n.val : Int) ≤ wclosest (n.val : Int) ∧ 0 ≤ wcode (wclosest (n.val : Int)) ∧ (0 < wcode (wclosest (n.val : Int)) → wof (wcode (wclosest (n.val : Int)) - 1) < n.val) ∧
    (wcode (wclosest (n.val : Int)) = 0 → n.val ≤ 1) := by decide +kernel
theorem wmono : ∀ a b : Fin 65, a.val ≤ b.val → wclosest (a.val : Int) ≤ wclosest (b.val : Int) := by decide +kernel

/-- How many bits a number needs. -/
def wbits (x : Nat) : Nat := Lib.bitLen x
theorem wbits_zero : wbits 0 = 0 := rfl
theorem wbits_half {x : Nat} (h0 : x ≠ 0) (h : x < 2 ^ 64) : wbits x = 1 + wbits (x / 2) := Lib.bitLen_half x h0 h
theorem wbits_le {x k : Nat} (hk : k ≤ 64) (h : x < 2 ^ k) : wbits x ≤ k := Lib.bitLen_le x k hk h
theorem wbits_bounds {x : Nat} (h : x < 2 ^ 64) (h0 : x ≠ 0) : 1 ≤ wbits x ∧ 2 ^ (wbits x - 1) ≤ x ∧ x < 2 ^ wbits x := Lib.bitLenAux_bounds 64 x h h0
theorem wbits_lt {x : Nat} (h : x < 2 ^ 64) : x < 2 ^ wbits x := by
  by_cases h0 : x = 0
  · subst h0; decide
  · exact (wbits_bounds h h0).2.2
theorem wbits_64 {x : Nat} (h : x < 2 ^ 64) : wbits x ≤ 64 := wbits_le (by omega) h
theorem wbits_mono {x y : Nat} (hy : y < 2 ^ 64) (h : x ≤ y) : wbits x ≤ wbits y := wbits_le (wbits_64 hy) (Nat.lt_of_le_of_lt h (wbits_lt hy))
theorem wbits_iff {x k : Nat} (hx : x < 2 ^ 64) (hk : k ≤ 64) : wbits x ≤ k ↔ x < 2 ^ k :=
  ⟨fun h => Nat.lt_of_lt_of_le (wbits_lt hx) (Nat.pow_le_pow_right (by omega) h), wbits_le hk⟩
theorem wbits_or {x y : Nat} (hx : x < 2 ^ 64) (hy : y < 2 ^ 64) : wbits (x ||| y) = max (wbits x) (wbits y) := by
  have ho : x ||| y < 2 ^ 64 := Nat.or_lt_two_pow hx hy
  have h1 : wbits (x ||| y) ≤ max (wbits x) (wbits y) := by
    refine wbits_le (by have := wbits_64 hx; have := wbits_64 hy; omega) (Nat.or_lt_two_pow ?_ ?_)
    · exact Nat.lt_of_lt_of_le (wbits_lt hx) (Nat.pow_le_pow_right (by omega) (by omega))
    · exact Nat.lt_of_lt_of_le (wbits_lt hy) (Nat.pow_le_pow_right (by omega) (by omega))
  have h2 := wbits_mono ho (Nat.left_le_or (n := x) (m := y))
  have h3 := wbits_mono ho (Nat.right_le_or (n := x) (m := y))
  omega
theorem wbits_max {x y : Nat} (hx : x < 2 ^ 64) (hy : y < 2 ^ 64) : wbits (max x y) = max (wbits x) (wbits y) := by
  rcases Nat.le_total x y with h | h
  · have := wbits_mono hy h; rw [Nat.max_eq_right h]; omega
  · have := wbits_mono hx h; rw [Nat.max_eq_left h]; omega
/-- The most bits of several numbers. -/
def wmost (l : List Nat) : Nat := l.foldl (fun n x => max n (wbits x)) 0
def wall (l : List Nat) : Nat := l.foldl (fun n x => n ||| x) 0
def wtop (l : List Nat) : Nat := l.foldl (fun n x => max n x) 0
theorem wmost_snoc (l : List Nat) (x : Nat) : wmost (l ++ [x]) = max (wmost l) (wbits x) := by simp [wmost]
theorem wall_snoc (l : List Nat) (x : Nat) : wall (l ++ [x]) = wall l ||| x := by simp [wall]
theorem wtop_snoc (l : List Nat) (x : Nat) : wtop (l ++ [x]) = max (wtop l) x := by simp [wtop]
theorem wall_lt {l : List Nat} (h : ∀ x ∈ l, x < 2 ^ 64) : wall l < 2 ^ 64 := by
  suffices ∀ (l : List Nat) (a : Nat), a < 2 ^ 64 → (∀ x ∈ l, x < 2 ^ 64) → l.foldl (fun n x => n ||| x) a < 2 ^ 64 from this l 0 (by decide) h
  intro l
  induction l with
  | nil => exact fun a ha _ => ha
  | cons x l ih => exact fun a ha hl => ih _ (Nat.or_lt_two_pow ha (hl x (by simp))) fun y hy => hl y (by simp [hy])
theorem wall_bits {l : List Nat} (h : ∀ x ∈ l, x < 2 ^ 64) : wbits (wall l) = wmost l := by
  suffices ∀ (l : List Nat) (a : Nat), a < 2 ^ 64 → (∀ x ∈ l, x < 2 ^ 64) → wbits (l.foldl (fun n x => n ||| x) a) = l.foldl (fun n x => max n (wbits x)) (wbits a) from this l 0 (by decide) h
  intro l
  induction l with
  | nil => exact fun a ha _ => rfl
  | cons x l ih => exact fun a ha hl => by rw [List.foldl_cons, List.foldl_cons, ih _ (Nat.or_lt_two_pow ha (hl x (by simp))) fun y hy => hl y (by simp [hy]), wbits_or ha (hl x (by simp))]
theorem wtop_lt {l : List Nat} (h : ∀ x ∈ l, x < 2 ^ 64) : wtop l < 2 ^ 64 := by
  suffices ∀ (l : List Nat) (a : Nat), a < 2 ^ 64 → (∀ x ∈ l, x < 2 ^ 64) → l.foldl (fun n x => max n x) a < 2 ^ 64 from this l 0 (by decide) h
  intro l
  induction l with
  | nil => exact fun a ha _ => ha
  | cons x l ih => exact fun a ha hl => ih _ (Nat.max_lt.2 ⟨ha, hl x (by simp)⟩) fun y hy => hl y (by simp [hy])
theorem wtop_bits {l : List Nat} (h : ∀ x ∈ l, x < 2 ^ 64) : wbits (wtop l) = wmost l := by
  suffices ∀ (l : List Nat) (a : Nat), a < 2 ^ 64 → (∀ x ∈ l, x < 2 ^ 64) → wbits (l.foldl (fun n x => max n x) a) = l.foldl (fun n x => max n (wbits x)) (wbits a) from this l 0 (by decide) h
  intro l
  induction l with
  | nil => exact fun a ha _ => rfl
  | cons x l ih => exact fun a ha hl => by rw [List.foldl_cons, List.foldl_cons, ih _ (Nat.max_lt.2 ⟨ha, hl x (by simp)⟩) fun y hy => hl y (by simp [hy]), wbits_max ha (hl x (by simp))]
theorem wmost_64 {l : List Nat} (h : ∀ x ∈ l, x < 2 ^ 64) : wmost l ≤ 64 := by rw [← wall_bits h]; exact wbits_64 (wall_lt h)
end Go.Proofs.YtiapopaggpnceaaDoor
