
/- Numbers laid down in as few bytes as they need, as plain functions on lists of bytes, and what follows of them. No program is named here. -/

import Derived.Lib.BitFns

namespace Go.Proofs.Ytocodcceimeiiaa

/-- The bytes of a number: seven bits a byte, the lowest first (f: at least as many steps as are wanted). -/
def vputF : Nat → Nat → List UInt8
  | 0, x => [UInt8.ofNat x]
  | f + 1, x => if x < 128 then [UInt8.ofNat x] else UInt8.ofNat (x % 128 + 128) :: vputF f (x / 128)
def vput (x : Nat) : List UInt8 := vputF x x

/-- May a number's last byte be c at place i? -/
def vend (i c : Nat) : Bool := if i = 9 then c == 1 else c != 0 || i == 0

/-- What is read off the front of bytes, at place i. -/
def vgo : Nat → List UInt8 → Option (Nat × List UInt8)
  | _, [] => none
  | i, c :: r => if c.toNat < 128 then (if vend i c.toNat = true then some (c.toNat, r) else none) else if 9 ≤ i then none else (vgo (i + 1) r).map fun p => (c.toNat - 128 + 128 * p.1, p.2)

def vtake (l : List UInt8) : Option (Nat × List UInt8) := vgo 0 l

theorem vputF_any : ∀ (f g x : Nat), x ≤ f → x ≤ g → vputF f x = vputF g x := by
  intro f
  induction f with
  | zero =>
    intro g x hf _
    obtain rfl : x = 0 := by omega
    cases g with
    | zero => rfl
    | succ g => show [UInt8.ofNat 0] = if 0 < 128 then _ else _; rw [if_pos (by omega)]
  | succ f ih =>
    intro g x hf hg
    cases g with
    | zero =>
      obtain rfl : x = 0 := by omega
      show (if 0 < 128 then _ else _) = [UInt8.ofNat 0]; rw [if_pos (by omega)]
    | succ g =>
      show (if x < 128 then _ else _) = (if x < 128 then _ else _)
      by_cases h : x < 128
      · rw [if_pos h, if_pos h]
      · rw [if_neg h, if_neg h, ih g (x / 128) (by omega) (by omega)]
theorem vput_lt {x : Nat} (h : x < 128) : vput x = [UInt8.ofNat x] := by
  unfold vput
  cases x with
  | zero => rfl
  | succ n => show (if n + 1 < 128 then _ else _) = _; rw [if_pos h]
theorem vput_ge {x : Nat} (h : 128 ≤ x) : vput x = UInt8.ofNat (x % 128 + 128) :: vput (x / 128) := by
  unfold vput
  cases x with
  | zero => omega
  | succ n =>
    show (if n + 1 < 128 then _ else _) = _
    rw [if_neg (by omega), vputF_any n ((n + 1) / 128) ((n + 1) / 128) (by omega) (by omega)]
theorem vput_300 : vput 300 = [172, 2] := by rw [vput_ge (by omega), vput_lt (by omega)]; rfl
theorem vput_0 : vput 0 = [0] := vput_lt (by omega)

theorem vput_len_pos (x : Nat) : 1 ≤ (vput x).length := by
  by_cases h : x < 128
  · rw [vput_lt h]; simp
  · rw [vput_ge (by omega)]; simp

/-- n bytes are enough just below 128 ^ n. -/
theorem vput_len_le (n : Nat) : ∀ x, x < 128 ^ (n + 1) → (vput x).length ≤ n + 1 := by
  induction n with
  | zero => intro x h; rw [vput_lt (by simpa using h)]; simp
  | succ n ih =>
    intro x h
    by_cases hx : x < 128
    · rw [vput_lt hx]; simp
    · rw [vput_ge (by omega), List.length_cons]
      have := ih (x / 128) (by rw [Nat.pow_succ] at h; omega)
      omega
theorem vput_len_ge (n : Nat) : ∀ x, 128 ^ n ≤ x → n + 1 ≤ (vput x).length := by
  induction n with
  | zero => intro x _; exact vput_len_pos x
  | succ n ih =>
    intro x h
    have h1 : 1 ≤ 128 ^ n := Nat.one_le_pow _ _ (by omega)
    rw [Nat.pow_succ] at h
    rw [vput_ge (by omega), List.length_cons]
    have := ih (x / 128) (by omega)
    omega
theorem vput_len_mono : ∀ (y x : Nat), x ≤ y → (vput x).length ≤ (vput y).length := by
  intro y
  induction y using Nat.strongRecOn with
  | ind y ih =>
    intro x h
    by_cases hx : x < 128
    · rw [vput_lt hx]; exact vput_len_pos y
    · rw [vput_ge (x := x) (by omega), vput_ge (x := y) (by omega)]
      have := ih (y / 128) (by omega) (x / 128) (by omega)
      simpa using this
theorem vput_len_10 {x : Nat} (h : x < 18446744073709551616) : (vput x).length ≤ 10 := vput_len_le 9 x (by
  have : (128 : Nat) ^ 10 = 1180591620717411303424 := by decide
  show x < 128 ^ 10
  omega)

/-- The k-th byte, if it is not the last. -/
theorem vput_drop (k : Nat) : ∀ x, k < (vput x).length → (vput x).drop k = vput (x / 128 ^ k) := by
  induction k with
  | zero => intro x _; simp
  | succ k ih =>
    intro x h
    by_cases hx : x < 128
    · rw [vput_lt hx] at h; simp at h
    · rw [vput_ge (by omega)] at h ⊢
      rw [List.drop_succ_cons, ih _ (by simpa using h), Nat.div_div_eq_div_mul, Nat.pow_succ, Nat.mul_comm]
theorem vput_getElem (k x : Nat) (h : k + 1 < (vput x).length) : (vput x)[k]'(by omega) = UInt8.ofNat (x / 128 ^ k % 128 + 128) ∧ 128 ≤ x / 128 ^ k := by
  have hd := vput_drop k x (by omega)
  have hx : 128 ≤ x / 128 ^ k := by
    by_cases hx : x / 128 ^ k < 128
    · rw [vput_lt hx] at hd
      have := congrArg List.length hd
      simp at this
      omega
    · omega
  refine ⟨?_, hx⟩
  rw [vput_ge hx, List.drop_eq_getElem_cons (by omega)] at hd
  injection hd
theorem vput_last (k x : Nat) (h : k + 1 = (vput x).length) : (vput x)[k]'(by omega) = UInt8.ofNat (x / 128 ^ k) ∧ x / 128 ^ k < 128 := by
  have hd := vput_drop k x (by omega)
  have hx : x / 128 ^ k < 128 := by
    by_cases hx : x / 128 ^ k < 128
    · exact hx
    · rw [vput_ge (x := x / 128 ^ k) (by omega)] at hd
      have h1 := congrArg List.length hd
      have h2 := vput_len_pos (x / 128 ^ k / 128)
      rw [List.length_drop, List.length_cons] at h1
      omega
  refine ⟨?_, hx⟩
  rw [vput_lt hx, List.drop_eq_getElem_cons (by omega)] at hd
  injection hd

theorem vput_take_last (j x : Nat) (h : j + 1 = (vput x).length) : (vput x).take j ++ [UInt8.ofNat (x / 128 ^ j)] = vput x := by
  obtain ⟨h4, _⟩ := vput_last j x h
  have h8 := List.take_succ_eq_append_getElem (l := vput x) (i := j) (by omega)
  rw [List.take_of_length_le (by omega), h4] at h8
  exact h8.symm

theorem bitLen_or_one {y : Nat} (h0 : y ≠ 0) (h : y < 2 ^ 64) : Lib.bitLen (y ||| 1) = Lib.bitLen y := by
  have h2 : (y ||| 1) / 2 = y / 2 := by
    have h3 : (y ||| 1) >>> 1 = y >>> 1 := by
      rw [Nat.shiftRight_or_distrib]; simp
    simpa [Nat.shiftRight_succ] using h3
  have h4 : y ||| 1 < 2 ^ 64 := Nat.or_lt_two_pow h (by decide)
  have h5 : y ||| 1 ≠ 0 := by
    intro h6
    have := Nat.left_le_or (n := y) (m := 1)
    omega
  rw [Lib.bitLen_half _ h5 h4, Lib.bitLen_half _ h0 h, h2]

theorem bitLen_small : ∀ n : Fin 128, (Lib.bitLen (n.val ||| 1) + 6) / 7 = 1 := by decide +kernel

theorem bitLen_vput (x : Nat) : x < 2 ^ 64 → (Lib.bitLen (x ||| 1) + 6) / 7 = (vput x).length := by
  induction x using Nat.strongRecOn with
  | ind x ih =>
    intro hx
    by_cases h : x < 128
    · rw [vput_lt h]; exact bitLen_small ⟨x, h⟩
    · rw [vput_ge (by omega), List.length_cons, ← ih (x / 128) (by omega) (by omega), bitLen_or_one (by omega) hx, bitLen_or_one (by omega) (by omega),
        Lib.bitLen_shift 7 x (by omega) hx]
      show (7 + Lib.bitLen (x / 128) + 6) / 7 = _
      omega

/-- The number that bytes come to, seven bits a byte. -/
def vsum : List UInt8 → Nat
  | [] => 0
  | c :: r => c.toNat % 128 + 128 * vsum r
theorem vsum_put (x : Nat) : vsum (vput x) = x := by
  induction x using Nat.strongRecOn with
  | ind x ih =>
    by_cases h : x < 128
    · rw [vput_lt h]; simp [vsum]; omega
    · rw [vput_ge (by omega), vsum, ih (x / 128) (by omega)]; simp; omega
theorem vsum_append (a b : List UInt8) : vsum (a ++ b) = vsum a + 128 ^ a.length * vsum b := by
  induction a with
  | nil => simp [vsum]
  | cons c a ih => simp only [List.cons_append, vsum, ih, List.length_cons, Nat.pow_succ, Nat.mul_add, Nat.mul_comm (128 ^ a.length) 128, Nat.mul_assoc]; omega
theorem vsum_lt (a : List UInt8) : vsum a < 128 ^ a.length := by
  induction a with
  | nil => simp [vsum]
  | cons c a ih => simp only [vsum, List.length_cons, Nat.pow_succ]; omega

/-- All bytes but the last have their highest bit. -/
theorem vput_high (x k : Nat) (h : k + 1 < (vput x).length) : 128 ≤ ((vput x)[k]'(by omega)).toNat := by
  have h2 := (vput_getElem k x h).1
  rw [h2]
  simp
  omega

theorem pow_le_of_lt {i x : Nat} (h : x * 128 ^ i < 18446744073709551616) (hx : 128 ≤ x) : i ≤ 8 := by
  by_cases hi : 9 ≤ i
  · have h1 : (128 : Nat) ^ 9 ≤ 128 ^ i := Nat.pow_le_pow_right (by omega) hi
    have h2 : (128 : Nat) ^ 9 = 9223372036854775808 := by decide
    have h3 : 128 * 9223372036854775808 ≤ x * 128 ^ i := Nat.mul_le_mul hx (by omega)
    omega
  · omega

/-- What was put is taken as it was. -/
theorem vgo_put (r : List UInt8) (x : Nat) : ∀ i, i ≤ 9 → x * 128 ^ i < 18446744073709551616 → (i = 0 ∨ x ≠ 0) → vgo i (vput x ++ r) = some (x, r) := by
  induction x using Nat.strongRecOn with
  | ind x ih =>
    intro i hi hx h0
    by_cases h : x < 128
    · rw [vput_lt h]
      have h1 : (UInt8.ofNat x).toNat = x := by simp; omega
      have h2 : vend i x = true := by
        unfold vend
        by_cases h9 : i = 9
        · subst h9
          rw [if_pos rfl]
          have h2 : (128 : Nat) ^ 9 = 9223372036854775808 := by decide
          rw [h2] at hx
          have : x = 1 := by omega
          simp [this]
        · rw [if_neg h9]
          simp; omega
      simp only [List.cons_append, List.nil_append, vgo, h1, if_pos h, if_pos h2]
    · have h8 := pow_le_of_lt hx (by omega)
      rw [vput_ge (by omega)]
      have h1 : (UInt8.ofNat (x % 128 + 128)).toNat = x % 128 + 128 := by simp; omega
      have h3 : x / 128 * 128 ^ (i + 1) < 18446744073709551616 := by
        rw [Nat.pow_succ, Nat.mul_comm (128 ^ i) 128, ← Nat.mul_assoc]
        exact Nat.lt_of_le_of_lt (Nat.mul_le_mul_right _ (by omega)) hx
      simp only [List.cons_append, vgo, h1, if_neg (show ¬ x % 128 + 128 < 128 by omega), if_neg (show ¬ 9 ≤ i by omega), ih (x / 128) (by omega) (i + 1) (by omega) h3 (by omega), Option.map_some]
      congr 2
      omega
theorem vtake_put {x : Nat} (h : x < 18446744073709551616) (r : List UInt8) : vtake (vput x ++ r) = some (x, r) := vgo_put r x 0 (by omega) (by simpa using h) (.inl rfl)

/-- A number that is cut is none. -/
theorem vgo_cut (x : Nat) : ∀ i k, k < (vput x).length → vgo i ((vput x).take k) = none := by
  induction x using Nat.strongRecOn with
  | ind x ih =>
    intro i k hk
    by_cases h : x < 128
    · rw [vput_lt h] at hk ⊢
      simp at hk
      subst hk
      simp [vgo]
    · rw [vput_ge (by omega)] at hk ⊢
      cases k with
      | zero => simp [vgo]
      | succ k =>
        have h1 : (UInt8.ofNat (x % 128 + 128)).toNat = x % 128 + 128 := by simp; omega
        simp only [List.take_succ_cons, vgo, h1, if_neg (show ¬ x % 128 + 128 < 128 by omega), ih (x / 128) (by omega) (i + 1) k (by simpa using hk)]
        split <;> rfl

/-- What is taken stands there as it is put. -/
theorem vgo_some : ∀ (l : List UInt8) (i x : Nat) (r : List UInt8), i ≤ 9 → vgo i l = some (x, r) → l = vput x ++ r ∧ x * 128 ^ i < 18446744073709551616 ∧ (i = 0 ∨ x ≠ 0) := by
  intro l
  induction l with
  | nil => intro i x r _ h; simp [vgo] at h
  | cons c l ih =>
    intro i x r hi h
    rw [vgo] at h
    have hc := c.toNat_lt
    by_cases h1 : c.toNat < 128
    · rw [if_pos h1] at h
      by_cases h2 : vend i c.toNat = true
      · rw [if_pos h2] at h
        injection h with h
        injection h with hx hr
        subst hx hr
        refine ⟨by rw [vput_lt h1]; simp, ?_, ?_⟩
        · unfold vend at h2
          by_cases h9 : i = 9
          · subst h9
            rw [if_pos rfl] at h2
            have h3 : c.toNat = 1 := by simpa using h2
            rw [h3]
            decide
          · have h4 : (128 : Nat) ^ i ≤ 128 ^ 8 := Nat.pow_le_pow_right (by omega) (by omega)
            have h5 : (128 : Nat) ^ 8 = 72057594037927936 := by decide
            have h6 : c.toNat * 128 ^ i ≤ 127 * 72057594037927936 := Nat.mul_le_mul (by omega) (by omega)
            omega
        · unfold vend at h2
          by_cases h9 : i = 9
          · subst h9
            rw [if_pos rfl] at h2
            have h3 : c.toNat = 1 := by simpa using h2
            omega
          · rw [if_neg h9] at h2
            simp at h2
            omega
      · rw [if_neg h2] at h; cases h
    · rw [if_neg h1] at h
      by_cases h9 : 9 ≤ i
      · rw [if_pos h9] at h; cases h
      · rw [if_neg h9] at h
        cases h3 : vgo (i + 1) l with
        | none => rw [h3] at h; simp at h
        | some p =>
          obtain ⟨x', r'⟩ := p
          rw [h3] at h
          simp at h
          obtain ⟨hx, rfl⟩ := h
          obtain ⟨hl, hb, h0⟩ := ih (i + 1) x' r' (by omega) h3
          have hx0 : x' ≠ 0 := by omega
          refine ⟨?_, ?_, by omega⟩
          · rw [vput_ge (by omega), show x / 128 = x' by omega, List.cons_append, ← hl]
            congr 1
            apply UInt8.toNat_inj.1
            simp
            omega
          · have hp : (128 : Nat) ^ (i + 1) * 128 ^ (8 - i) = 9223372036854775808 := by
              rw [← Nat.pow_add, show i + 1 + (8 - i) = 9 by omega]
            have hq : 18446744073709551616 = 128 ^ (i + 1) * (128 ^ (8 - i) * 2) := by rw [← Nat.mul_assoc, hp]
            have h5 : x' + 1 ≤ 128 ^ (8 - i) * 2 := by
              rw [hq, Nat.mul_comm] at hb
              exact Nat.lt_of_mul_lt_mul_left hb
            have h6 : x * 128 ^ i < (x' + 1) * 128 ^ (i + 1) := by
              rw [Nat.pow_succ, Nat.mul_comm (128 ^ i) 128, ← Nat.mul_assoc]
              exact Nat.mul_lt_mul_of_pos_right (by omega) (Nat.pow_pos (by omega))
            have h7 : (x' + 1) * 128 ^ (i + 1) ≤ 18446744073709551616 := by
              rw [hq, Nat.mul_comm]; exact Nat.mul_le_mul_left _ h5
            omega
theorem vtake_some {l : List UInt8} {x : Nat} {r : List UInt8} (h : vtake l = some (x, r)) : l = vput x ++ r ∧ x < 18446744073709551616 := by
  obtain ⟨h1, h2, _⟩ := vgo_some l 0 x r (by omega) h
  exact ⟨h1, by simpa using h2⟩
/-- Where the numbers' bytes end: the loop's place n is one behind which nothing more can belong to the number. -/
def vstops (l : List UInt8) (n : Nat) : Prop := n ≤ 9 ∧ n ≤ l.length ∧ (∀ j (h : j < l.length), j < n → 128 ≤ l[j].toNat) ∧ (n = 9 ∨ ∀ h : n < l.length, l[n].toNat < 128)

theorem vput_ends {l : List UInt8} {n x : Nat} {r : List UInt8} (hs : vstops l n) (hl : l = vput x ++ r) (hx : x < 18446744073709551616) : n + 1 = (vput x).length := by
  obtain ⟨h9, hn, hlo, hhi⟩ := hs
  have h10 := vput_len_10 hx
  have hp := vput_len_pos x
  rcases Nat.lt_trichotomy (n + 1) (vput x).length with h | h | h
  · exfalso
    have h1 := vput_high x n h
    have hll : n < l.length := by rw [hl, List.length_append]; omega
    have h2 : l[n]'hll = (vput x)[n]'(by omega) := by simp only [hl]; exact List.getElem_append_left (by omega)
    rcases hhi with hhi | hhi
    · omega
    · have := hhi hll
      rw [h2] at this
      omega
  · exact h
  · exfalso
    have hll : (vput x).length - 1 < l.length := by rw [hl, List.length_append]; omega
    have h1 := hlo ((vput x).length - 1) hll (by omega)
    have h2 : l[(vput x).length - 1]'hll = (vput x)[(vput x).length - 1]'(by omega) := by simp only [hl]; exact List.getElem_append_left (by omega)
    obtain ⟨h3, h4⟩ := vput_last ((vput x).length - 1) x (by omega)
    rw [h2, h3] at h1
    generalize x / 128 ^ ((vput x).length - 1) = d at h1 h4
    simp at h1
    omega

/-- The reference's way to take: no byte ends the number. -/
theorem vtake_short {l : List UInt8} {n : Nat} (hs : vstops l n) (hn : l.length ≤ n) : vtake l = none := by
  cases h : vtake l with
  | none => rfl
  | some p =>
    obtain ⟨x, r⟩ := p
    obtain ⟨h1, h2⟩ := vtake_some h
    have h3 := vput_ends hs h1 h2
    have h4 := congrArg List.length h1
    rw [List.length_append] at h4
    omega
/-- .. what stands there is not what is put. -/
theorem vtake_other {l : List UInt8} {n : Nat} (hs : vstops l n) (hne : vput (vsum (l.take (n + 1)) % 18446744073709551616) ≠ l.take (n + 1)) : vtake l = none := by
  cases h : vtake l with
  | none => rfl
  | some p =>
    obtain ⟨x, r⟩ := p
    obtain ⟨h1, h2⟩ := vtake_some h
    have h3 := vput_ends hs h1 h2
    exfalso
    apply hne
    rw [h1, h3, List.take_left, vsum_put, Nat.mod_eq_of_lt h2]
/-- .. it is. -/
theorem vtake_same {l : List UInt8} {n : Nat} (he : vput (vsum (l.take (n + 1)) % 18446744073709551616) = l.take (n + 1)) :
    vtake l = some (vsum (l.take (n + 1)) % 18446744073709551616, l.drop (n + 1)) := by
  have h := vtake_put (x := vsum (l.take (n + 1)) % 18446744073709551616) (Nat.mod_lt _ (by omega)) (l.drop (n + 1))
  rw [he, List.take_append_drop] at h
  exact h

/-- The program's way to take: k bytes with their highest bit are read. -/
theorem vtake_step : ∀ (k : Nat) (l : List UInt8), k ≤ 9 → k ≤ l.length → (∀ j (h : j < l.length), j < k → 128 ≤ l[j].toNat) →
    vtake l = (vgo k (l.drop k)).map fun p => (vsum (l.take k) + 128 ^ k * p.1, p.2) := by
  intro k
  induction k with
  | zero => intro l _ _ _; simp only [List.drop_zero, List.take_zero, vsum, vtake]; cases vgo 0 l <;> simp
  | succ k ih =>
    intro l h9 hl hhi
    rw [ih l (by omega) (by omega) (fun j h hj => hhi j h (by omega))]
    have hk : k < l.length := by omega
    have h1 := hhi k hk (by omega)
    have hc := (l[k]).toNat_lt
    rw [List.drop_eq_getElem_cons hk, vgo, if_neg (by omega), if_neg (by omega), List.take_succ_eq_append_getElem hk, vsum_append, List.length_take, Nat.min_eq_left (by omega)]
    cases vgo (k + 1) (l.drop (k + 1)) with
    | none => rfl
    | some p =>
      simp only [Option.map_some, vsum, Option.some.injEq, Prod.mk.injEq, and_true, Nat.pow_succ, Nat.mul_add, Nat.mul_zero, Nat.add_zero]
      rw [show l[k].toNat % 128 = l[k].toNat - 128 by omega, ← Nat.mul_assoc (128 ^ k)]
      omega
theorem vtake_end {l : List UInt8} {k : Nat} (h9 : k ≤ 9) (hl : k < l.length) (hhi : ∀ j (h : j < l.length), j < k → 128 ≤ l[j].toNat) (hlo : l[k].toNat < 128) :
    vtake l = if vend k l[k].toNat = true then some (vsum (l.take k) + 128 ^ k * l[k].toNat, l.drop (k + 1)) else none := by
  rw [vtake_step k l h9 (by omega) hhi, List.drop_eq_getElem_cons hl, vgo, if_pos hlo]
  split <;> rfl
theorem vtake_long {l : List UInt8} (hl : 10 ≤ l.length) (hhi : ∀ j (h : j < l.length), j < 10 → 128 ≤ l[j].toNat) : vtake l = none := by
  have h1 := hhi 9 (by omega) (by omega)
  rw [vtake_step 9 l (by omega) (by omega) (fun j h hj => hhi j h (by omega)), List.drop_eq_getElem_cons (by omega), vgo, if_neg (by omega), if_pos (by omega)]
  rfl
theorem vtake_all {l : List UInt8} (hl : l.length < 10) (hhi : ∀ j (h : j < l.length), 128 ≤ l[j].toNat) : vtake l = none := by
  rw [vtake_step l.length l (by omega) (by omega) (fun j h _ => hhi j h)]
  simp [vgo]
end Go.Proofs.Ytocodcceimeiiaa
