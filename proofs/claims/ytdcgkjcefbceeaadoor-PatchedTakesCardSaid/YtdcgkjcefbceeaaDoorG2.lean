/- Texts that the claims of this seat share, part 2: Plain VZig Leaf RPut Put Take RTake Int VIs Sl EPlain ERef ERTake OwnV DPlain DRef DRPut Door Mask Num DOwn DIs Wide WRow Arr RegR WMake TPlain TRef TRPut TRTake TOwn. -/
import Derived.Lib.BitFns
import Derived.Deep.DeepMust
import Derived.Lib.MinMax
import Derived.Deep.RegionWith
import Derived.Deep.RegionLaw
import Derived.BigGuardPart
import Derived.Deep.Grids
import Derived.Test.YtdcgkjcefbceeaaDoorTie
import Derived.Test.YtdcgkjcefbceeaaDoorCards
import Derived.SevenTiedAt
import Derived.Stop.Joined
import Derived.Deep.WholeRow
import Derived.Shelf.Bits.Mul64
import Derived.Laws.StructEq
import Derived.Test.YtdcgkjcefbceeaaDoorG1
/- Numbers laid down in as few bytes as they need, as plain functions on lists of bytes, and what follows of them. No program is named here. -/



namespace Go.Proofs.YtdcgkjcefbceeaaDoor

/-- The bytes of a number: seven bits a byte, the lowest first (f: at least as many steps as are wanted). -/
def vputF : Nat → Nat → List UInt8
  | 0, x => [UInt8.ofNat x]
  | f + 1, x => if x < 128 then [UInt8.ofNat x] else UInt8.ofNat (x % 128 + 128) :: vputF f (x / 128)
def vput (x : Nat) : List UInt8 := vputF x x

/-- May a number's last byte be c at place i? -/
def vend (i c : Nat) : Bool := if i = 9 then c == 1 else c != 0 || i == 0

/-- What is read off the front of bytes, at place i. -/
def vgo : Nat → List UInt8 → Option (Nat × List UInt8)
  | _, [] => none
  | i, c :: r => if c.toNat < 128 then (if vend i c.toNat = true then some (c.toNat, r) else none) else if 9 ≤ i then none else (vgo (i + 1) r).map fun p => (c.toNat - 128 + 128 * p.1, p.2)

def vtake (l : List UInt8) : Option (Nat × List UInt8) := vgo 0 l

theorem vputF_any : ∀ (f g x : Nat), x ≤ f → x ≤ g → vputF f x = vputF g x := by
  intro f
  induction f with
  | zero =>
    intro g x hf _
    obtain rfl : x = 0 := by omega
    cases g with
    | zero => rfl
    | succ g => show [UInt8.ofNat 0] = if 0 < 128 then _ else _; rw [if_pos (by omega)]
  | succ f ih =>
    intro g x hf hg
    cases g with
    | zero =>
      obtain rfl : x = 0 := by omega
      show (if 0 < 128 then _ else _) = [UInt8.ofNat 0]; rw [if_pos (by omega)]
    | succ g =>
      show (if x < 128 then _ else _) = (if x < 128 then _ else _)
      by_cases h : x < 128
      · rw [if_pos h, if_pos h]
      · rw [if_neg h, if_neg h, ih g (x / 128) (by omega) (by omega)]
theorem vput_lt {x : Nat} (h : x < 128) : vput x = [UInt8.ofNat x] := by
  unfold vput
  cases x with
  | zero => rfl
  | succ n => show (if n + 1 < 128 then _ else _) = _; rw [if_pos h]
theorem vput_ge {x : Nat} (h : 128 ≤ x) : vput x = UInt8.ofNat (x % 128 + 128) :: vput (x / 128) := by
  unfold vput
  cases x with
  | zero => omega
  | succ n =>
    show (if n + 1 < 128 then _ else _) = _
    rw [if_neg (by omega), vputF_any n ((n + 1) / 128) ((n + 1) / 128) (by omega) (by omega)]
theorem vput_300 : vput 300 = [172, 2] := by rw [vput_ge (by omega), vput_lt (by omega)]; rfl
theorem vput_0 : vput 0 = [0] := vput_lt (by omega)

theorem vput_len_pos (x : Nat) : 1 ≤ (vput x).length := by
  by_cases h : x < 128
  · rw [vput_lt h]; simp
  · rw [vput_ge (by omega)]; simp

/-- n bytes are enough just below 128 ^ n. -/
theorem vput_len_le (n : Nat) : ∀ x, x < 128 ^ (n + 1) → (vput x).length ≤ n + 1 := by
  induction n with
  | zero => intro x h; rw [vput_lt (by simpa using h)]; simp
  | succ n ih =>
    intro x h
    by_cases hx : x < 128
    · rw [vput_lt hx]; simp
    · rw [vput_ge (by omega), List.length_cons]
      have := ih (x / 128) (by rw [Nat.pow_succ] at h; omega)
      omega
theorem vput_len_ge (n : Nat) : ∀ x, 128 ^ n ≤ x → n + 1 ≤ (vput x).length := by
  induction n with
  | zero => intro x _; exact vput_len_pos x
  | succ n ih =>
    intro x h
    have h1 : 1 ≤ 128 ^ n := Nat.one_le_pow _ _ (by omega)
    rw [Nat.pow_succ] at h
    rw [vput_ge (by omega), List.length_cons]
    have := ih (x / 128) (by omega)
    omega
theorem vput_len_mono : ∀ (y x : Nat), x ≤ y → (vput x).length ≤ (vput y).length := by
  intro y
  induction y using Nat.strongRecOn with
  | ind y ih =>
    intro x h
    by_cases hx : x < 128
    · rw [vput_lt hx]; exact vput_len_pos y
    · rw [vput_ge (x := x) (by omega), vput_ge (x := y) (by omega)]
      have := ih (y / 128) (by omega) (x / 128) (by omega)
      simpa using this
theorem vput_len_10 {x : Nat} (h : x < 18446744073709551616) : (vput x).length ≤ 10 := vput_len_le 9 x (by have : (128 : Nat) ^ 10 = 1180591620717411303424 := by decide
                                                                                                           show x < 128 ^ 10
                                                                                                           omega)

/-- The k-th byte, if it is not the last. -/
theorem vput_drop (k : Nat) : ∀ x, k < (vput x).length → (vput x).drop k = vput (x / 128 ^ k) := by
  induction k with
  | zero => intro x _; simp
  | succ k ih =>
    intro x h
    by_cases hx : x < 128
    · rw [vput_lt hx] at h; simp at h
    · rw [vput_ge (by omega)] at h ⊢
      rw [List.drop_succ_cons, ih _ (by simpa using h), Nat.div_div_eq_div_mul, Nat.pow_succ, Nat.mul_comm]
theorem vput_getElem (k x : Nat) (h : k + 1 < (vput x).length) : (vput x)[k]'(by omega) = UInt8.ofNat (x / 128 ^ k % 128 + 128) ∧ 128 ≤ x / 128 ^ k := by
  have hd := vput_drop k x (by omega)
  have hx : 128 ≤ x / 128 ^ k := by
    by_cases hx : x / 128 ^ k < 128
    · rw [vput_lt hx] at hd
      have := congrArg List.length hd
      simp at this
      omega
    · omega
  refine ⟨?_, hx⟩
  rw [vput_ge hx, List.drop_eq_getElem_cons (by omega)] at hd
  injection hd
theorem vput_last (k x : Nat) (h : k + 1 = (vput x).length) : (vput x)[k]'(by omega) = UInt8.ofNat (x / 128 ^ k) ∧ x / 128 ^ k < 128 := by
  have hd := vput_drop k x (by omega)
  have hx : x / 128 ^ k < 128 := by
    by_cases hx : x / 128 ^ k < 128
    · exact hx
    · rw [vput_ge (x := x / 128 ^ k) (by omega)] at hd
      have h1 := congrArg List.length hd
      have h2 := vput_len_pos (x / 128 ^ k / 128)
      rw [List.length_drop, List.length_cons] at h1
      omega
  refine ⟨?_, hx⟩
  rw [vput_lt hx, List.drop_eq_getElem_cons (by omega)] at hd
  injection hd

theorem vput_take_last (j x : Nat) (h : j + 1 = (vput x).length) : (vput x).take j ++ [UInt8.ofNat (x / 128 ^ j)] = vput x := by
  obtain ⟨h4, _⟩ := vput_last j x h
  have h8 := List.take_succ_eq_append_getElem (l := vput x) (i := j) (by omega)
  rw [List.take_of_length_le (by omega), h4] at h8
  exact h8.symm

theorem bitLen_or_one {y : Nat} (h0 : y ≠ 0) (h : y < 2 ^ 64) : Lib.bitLen (y ||| 1) = Lib.bitLen y := by
  have h2 : (y ||| 1) / 2 = y / 2 := by
    have h3 : (y ||| 1) >>> 1 = y >>> 1 := by
      rw [Nat.shiftRight_or_distrib]; simp
    simpa [Nat.shiftRight_succ] using h3
  have h4 : y ||| 1 < 2 ^ 64 := Nat.or_lt_two_pow h (by decide)
  have h5 : y ||| 1 ≠ 0 := by
    intro h6
    have := Nat.left_le_or (n := y) (m := 1)
    omega
  rw [Lib.bitLen_half _ h5 h4, Lib.bitLen_half _ h0 h, h2]

theorem bitLen_small : ∀ n : Fin 128, (Lib.bitLen (n.val ||| 1) + 6) / 7 = 1 := by decide +kernel

theorem bitLen_vput (x : Nat) : x < 2 ^ 64 → (Lib.bitLen (x ||| 1) + 6) / 7 = (vput x).length := by
  induction x using Nat.strongRecOn with
  | ind x ih =>
    intro hx
    by_cases h : x < 128
    · rw [vput_lt h]; exact bitLen_small ⟨x, h⟩
    · rw [vput_ge (by omega), List.length_cons, ← ih (x / 128) (by omega) (by omega), bitLen_or_one (by omega) hx, bitLen_or_one (by omega) (by omega),
        Lib.bitLen_shift 7 x (by omega) hx]
      show (7 + Lib.bitLen (x / 128) + 6) / 7 = _
      omega

/-- The number that bytes come to, seven bits a byte. -/
def vsum : List UInt8 → Nat
  | [] => 0
  | c :: r => c.toNat % 128 + 128 * vsum r
theorem vsum_put (x : Nat) : vsum (vput x) = x := by
  induction x using Nat.strongRecOn with
  | ind x ih =>
    by_cases h : x < 128
    · rw [vput_lt h]; simp [vsum]; omega
    · rw [vput_ge (by omega), vsum, ih (x / 128) (by omega)]; simp; omega
theorem vsum_append (a b : List UInt8) : vsum (a ++ b) = vsum a + 128 ^ a.length * vsum b := by
  induction a with
  | nil => simp [vsum]
  | cons c a ih => simp only [List.cons_append, vsum, ih, List.length_cons, Nat.pow_succ, Nat.mul_add, Nat.mul_comm (128 ^ a.length) 128, Nat.mul_assoc]; omega
theorem vsum_lt (a : List UInt8) : vsum a < 128 ^ a.length := by
  induction a with
  | nil => simp [vsum]
  | cons c a ih => simp only [vsum, List.length_cons, Nat.pow_succ]; omega

/-- All bytes but the last have their highest bit. -/
theorem vput_high (x k : Nat) (h : k + 1 < (vput x).length) : 128 ≤ ((vput x)[k]'(by omega)).toNat := by
  have h2 := (vput_getElem k x h).1
  rw [h2]
  simp
  omega

theorem pow_le_of_lt {i x : Nat} (h : x * 128 ^ i < 18446744073709551616) (hx : 128 ≤ x) : i ≤ 8 := by
  by_cases hi : 9 ≤ i
  · have h1 : (128 : Nat) ^ 9 ≤ 128 ^ i := Nat.pow_le_pow_right (by omega) hi
    have h2 : (128 : Nat) ^ 9 = 9223372036854775808 := by decide
    have h3 : 128 * 9223372036854775808 ≤ x * 128 ^ i := Nat.mul_le_mul hx (by omega)
    omega
  · omega

/-- What was put is taken as it was. -/
theorem vgo_put (r : List UInt8) (x : Nat) : ∀ i, i ≤ 9 → x * 128 ^ i < 18446744073709551616 → (i = 0 ∨ x ≠ 0) → vgo i (vput x ++ r) = some (x, r) := by
  induction x using Nat.strongRecOn with
  | ind x ih =>
    intro i hi hx h0
    by_cases h : x < 128
    · rw [vput_lt h]
      have h1 : (UInt8.ofNat x).toNat = x := by simp; omega
      have h2 : vend i x = true := by
        unfold vend
        by_cases h9 : i = 9
        · subst h9
          rw [if_pos rfl]
          have h2 : (128 : Nat) ^ 9 = 9223372036854775808 := by decide
          rw [h2] at hx
          have : x = 1 := by omega
          simp [this]
        · rw [if_neg h9]
          simp; omega
      simp only [List.cons_append, List.nil_append, vgo, h1, if_pos h, if_pos h2]
    · have h8 := pow_le_of_lt hx (by omega)
      rw [vput_ge (by omega)]
      have h1 : (UInt8.ofNat (x % 128 + 128)).toNat = x % 128 + 128 := by simp; omega
      have h3 : x / 128 * 128 ^ (i + 1) < 18446744073709551616 := by
        rw [Nat.pow_succ, Nat.mul_comm (128 ^ i) 128, ← Nat.mul_assoc]
        exact Nat.lt_of_le_of_lt (Nat.mul_le_mul_right _ (by omega)) hx
      simp only [List.cons_append, vgo, h1, if_neg (show ¬ x % 128 + 128 < 128 by omega), if_neg (show ¬ 9 ≤ i by omega), ih (x / 128) (by omega) (i + 1) (by omega) h3 (by omega), Option.map_some]
      congr 2
      omega
theorem vtake_put {x : Nat} (h : x < 18446744073709551616) (r : List UInt8) : vtake (vput x ++ r) = some (x, r) := vgo_put r x 0 (by omega) (by simpa using h) (.inl rfl)

/-- A number that is cut is none. -/
theorem vgo_cut (x : Nat) : ∀ i k, k < (vput x).length → vgo i ((vput x).take k) = none := by
  induction x using Nat.strongRecOn with
  | ind x ih =>
    intro i k hk
    by_cases h : x < 128
    · rw [vput_lt h] at hk ⊢
      simp at hk
      subst hk
      simp [vgo]
    · rw [vput_ge (by omega)] at hk ⊢
      cases k with
      | zero => simp [vgo]
      | succ k =>
        have h1 : (UInt8.ofNat (x % 128 + 128)).toNat = x % 128 + 128 := by simp; omega
        simp only [List.take_succ_cons, vgo, h1, if_neg (show ¬ x % 128 + 128 < 128 by omega), ih (x / 128) (by omega) (i + 1) k (by simpa using hk)]
        split <;> rfl

/-- What is taken stands there as it is put. -/
theorem vgo_some : ∀ (l : List UInt8) (i x : Nat) (r : List UInt8), i ≤ 9 → vgo i l = some (x, r) → l = vput x ++ r ∧ x * 128 ^ i < 18446744073709551616 ∧ (i = 0 ∨ x ≠ 0) := by
  intro l
  induction l with
  | nil => intro i x r _ h; simp [vgo] at h
  | cons c l ih =>
    intro i x r hi h
    rw [vgo] at h
    have hc := c.toNat_lt
    by_cases h1 : c.toNat < 128
    · rw [if_pos h1] at h
      by_cases h2 : vend i c.toNat = true
      · rw [if_pos h2] at h
        injection h with h
        injection h with hx hr
        subst hx hr
        refine ⟨by rw [vput_lt h1]; simp, ?_, ?_⟩
        · unfold vend at h2
          by_cases h9 : i = 9
          · subst h9
            rw [if_pos rfl] at h2
            have h3 : c.toNat = 1 := by simpa using h2
            rw [h3]
            decide
          · have h4 : (128 : Nat) ^ i ≤ 128 ^ 8 := Nat.pow_le_pow_right (by omega) (by omega)
            have h5 : (128 : Nat) ^ 8 = 72057594037927936 := by decide
            have h6 : c.toNat * 128 ^ i ≤ 127 * 72057594037927936 := Nat.mul_le_mul (by omega) (by omega)
            omega
        · unfold vend at h2
          by_cases h9 : i = 9
          · subst h9
            rw [if_pos rfl] at h2
            have h3 : c.toNat = 1 := by simpa using h2
            omega
          · rw [if_neg h9] at h2
            simp at h2
            omega
      · rw [if_neg h2] at h; cases h
    · rw [if_neg h1] at h
      by_cases h9 : 9 ≤ i
      · rw [if_pos h9] at h; cases h
      · rw [if_neg h9] at h
        cases h3 : vgo (i + 1) l with
        | none => rw [h3] at h; simp at h
        | some p =>
          obtain ⟨x', r'⟩ := p
          rw [h3] at h
          simp at h
          obtain ⟨hx, rfl⟩ := h
          obtain ⟨hl, hb, h0⟩ := ih (i + 1) x' r' (by omega) h3
          have hx0 : x' ≠ 0 := by omega
          refine ⟨?_, ?_, by omega⟩
          · rw [vput_ge (by omega), show x / 128 = x' by omega, List.cons_append, ← hl]
            congr 1
            apply UInt8.toNat_inj.1
            simp
            omega
          · have hp : (128 : Nat) ^ (i + 1) * 128 ^ (8 - i) = 9223372036854775808 := by
              rw [← Nat.pow_add, show i + 1 + (8 - i) = 9 by omega]
            have hq : 18446744073709551616 = 128 ^ (i + 1) * (128 ^ (8 - i) * 2) := by rw [← Nat.mul_assoc, hp]
            have h5 : x' + 1 ≤ 128 ^ (8 - i) * 2 := by
              rw [hq, Nat.mul_comm] at hb
              exact Nat.lt_of_mul_lt_mul_left hb
            have h6 : x * 128 ^ i < (x' + 1) * 128 ^ (i + 1) := by
              rw [Nat.pow_succ, Nat.mul_comm (128 ^ i) 128, ← Nat.mul_assoc]
              exact Nat.mul_lt_mul_of_pos_right (by omega) (Nat.pow_pos (by omega))
            have h7 : (x' + 1) * 128 ^ (i + 1) ≤ 18446744073709551616 := by
              rw [hq, Nat.mul_comm]; exact Nat.mul_le_mul_left _ h5
            omega
theorem vtake_some {l : List UInt8} {x : Nat} {r : List UInt8} (h : vtake l = some (x, r)) : l = vput x ++ r ∧ x < 18446744073709551616 := by
  obtain ⟨h1, h2, _⟩ := vgo_some l 0 x r (by omega) h
  exact ⟨h1, by simpa using h2⟩
/-- Where the numbers' bytes end: the loop's place n is one behind which nothing more can belong to the number. -/
def vstops (l : List UInt8) (n : Nat) : Prop := n ≤ 9 ∧ n ≤ l.length ∧ (∀ j (h : j < l.length), j < n → 128 ≤ l[j].toNat) ∧ (n = 9 ∨ ∀ h : n < l.length, l[n].toNat < 128)

theorem vput_ends {l : List UInt8} {n x : Nat} {r : List UInt8} (hs : vstops l n) (hl : l = vput x ++ r) (hx : x < 18446744073709551616) : n + 1 = (vput x).length := by
  obtain ⟨h9, hn, hlo, hhi⟩ := hs
  have h10 := vput_len_10 hx
  have hp := vput_len_pos x
  rcases Nat.lt_trichotomy (n + 1) (vput x).length with h | h | h
  · exfalso
    have h1 := vput_high x n h
    have hll : n < l.length := by rw [hl, List.length_append]; omega
    have h2 : l[n]'hll = (vput x)[n]'(by omega) := by simp only [hl]; exact List.getElem_append_left (by omega)
    rcases hhi with hhi | hhi
    · omega
    · have := hhi hll
      rw [h2] at this
      omega
  · exact h
  · exfalso
    have hll : (vput x).length - 1 < l.length := by rw [hl, List.length_append]; omega
    have h1 := hlo ((vput x).length - 1) hll (by omega)
    have h2 : l[(vput x).length - 1]'hll = (vput x)[(vput x).length - 1]'(by omega) := by simp only [hl]; exact List.getElem_append_left (by omega)
    obtain ⟨h3, h4⟩ := vput_last ((vput x).length - 1) x (by omega)
    rw [h2, h3] at h1
    generalize x / 128 ^ ((vput x).length - 1) = d at h1 h4
    simp at h1
    omega

/-- The reference's way to take: no byte ends the number. -/
theorem vtake_short {l : List UInt8} {n : Nat} (hs : vstops l n) (hn : l.length ≤ n) : vtake l = none := by
  cases h : vtake l with
  | none => rfl
  | some p =>
    obtain ⟨x, r⟩ := p
    obtain ⟨h1, h2⟩ := vtake_some h
    have h3 := vput_ends hs h1 h2
    have h4 := congrArg List.length h1
    rw [List.length_append] at h4
    omega
/-- .. what stands there is not what is put. -/
theorem vtake_other {l : List UInt8} {n : Nat} (hs : vstops l n) (hne : vput (vsum (l.take (n + 1)) % 18446744073709551616) ≠ l.take (n + 1)) : vtake l = none := by
  cases h : vtake l with
  | none => rfl
  | some p =>
    obtain ⟨x, r⟩ := p
    obtain ⟨h1, h2⟩ := vtake_some h
    have h3 := vput_ends hs h1 h2
    exfalso
    apply hne
    rw [h1, h3, List.take_left, vsum_put, Nat.mod_eq_of_lt h2]
/-- .. it is. -/
theorem vtake_same {l : List UInt8} {n : Nat} (he : vput (vsum (l.take (n + 1)) % 18446744073709551616) = l.take (n + 1)) :
    vtake l = some (vsum (l.take (n + 1)) % 18446744073709551616, l.drop (n + 1)) := by
  have h := vtake_put (x := vsum (l.take (n + 1)) % 18446744073709551616) (Nat.mod_lt _ (by omega)) (l.drop (n + 1))
  rw [he, List.take_append_drop] at h
  exact h

/-- The program's way to take: k bytes with their highest bit are read. -/
theorem vtake_step : ∀ (k : Nat) (l : List UInt8), k ≤ 9 → k ≤ l.length → (∀ j (h : j < l.length), j < k → 128 ≤ l[j].toNat) →
    vtake l = (vgo k (l.drop k)).map fun p => (vsum (l.take k) + 128 ^ k * p.1, p.2) := by
  intro k
  induction k with
  | zero => intro l _ _ _; simp only [List.drop_zero, List.take_zero, vsum, vtake]; cases vgo 0 l <;> simp
  | succ k ih =>
    intro l h9 hl hhi
    rw [ih l (by omega) (by omega) (fun j h hj => hhi j h (by omega))]
    have hk : k < l.length := by omega
    have h1 := hhi k hk (by omega)
    have hc := (l[k]).toNat_lt
    rw [List.drop_eq_getElem_cons hk, vgo, if_neg (by omega), if_neg (by omega), List.take_succ_eq_append_getElem hk, vsum_append, List.length_take, Nat.min_eq_left (by omega)]
    cases vgo (k + 1) (l.drop (k + 1)) with
    | none => rfl
    | some p =>
      simp only [Option.map_some, vsum, Option.some.injEq, Prod.mk.injEq, and_true, Nat.pow_succ, Nat.mul_add, Nat.mul_zero, Nat.add_zero]
      rw [show l[k].toNat % 128 = l[k].toNat - 128 by omega, ← Nat.mul_assoc (128 ^ k)]
      omega
theorem vtake_end {l : List UInt8} {k : Nat} (h9 : k ≤ 9) (hl : k < l.length) (hhi : ∀ j (h : j < l.length), j < k → 128 ≤ l[j].toNat) (hlo : l[k].toNat < 128) :
    vtake l = if vend k l[k].toNat = true then some (vsum (l.take k) + 128 ^ k * l[k].toNat, l.drop (k + 1)) else none := by
  rw [vtake_step k l h9 (by omega) hhi, List.drop_eq_getElem_cons hl, vgo, if_pos hlo]
  split <;> rfl
theorem vtake_long {l : List UInt8} (hl : 10 ≤ l.length) (hhi : ∀ j (h : j < l.length), j < 10 → 128 ≤ l[j].toNat) : vtake l = none := by
  have h1 := hhi 9 (by omega) (by omega)
  rw [vtake_step 9 l (by omega) (by omega) (fun j h hj => hhi j h (by omega)), List.drop_eq_getElem_cons (by omega), vgo, if_neg (by omega), if_pos (by omega)]
  rfl
theorem vtake_all {l : List UInt8} (hl : l.length < 10) (hhi : ∀ j (h : j < l.length), 128 ≤ l[j].toNat) : vtake l = none := by
  rw [vtake_step l.length l (by omega) (by omega) (fun j h _ => hhi j h)]
  simp [vgo]
end Go.Proofs.YtdcgkjcefbceeaaDoor

/- Numbers made ones that are not below 0, and back: the plain mathematics (varint). -/

namespace Go.Proofs.YtdcgkjcefbceeaaDoor

/-- A number made one that is not below 0, and back. -/
def vzig (x : Int) : Int := if x < 0 then -2 * x - 1 else 2 * x
def vzag (u : Int) : Int := if u % 2 = 1 then -(u / 2) - 1 else u / 2
theorem vzig_neg {x : Int} (h : x < 0) : vzig x = -2 * x - 1 := if_pos h
theorem vzig_pos {x : Int} (h : 0 ≤ x) : vzig x = 2 * x := if_neg (by omega)
theorem vzag_odd {u : Int} (h : u % 2 = 1) : vzag u = -(u / 2) - 1 := if_pos h
theorem vzag_even {u : Int} (h : u % 2 = 0) : vzag u = u / 2 := if_neg (by omega)
theorem vzig_bd {x : Int} (h0 : -9223372036854775808 ≤ x) (h1 : x ≤ 9223372036854775807) : 0 ≤ vzig x ∧ vzig x < 18446744073709551616 := by unfold vzig; split <;> omega
theorem vzag_bd {u : Int} (h0 : 0 ≤ u) (h1 : u < 18446744073709551616) : -9223372036854775808 ≤ vzag u ∧ vzag u ≤ 9223372036854775807 := by unfold vzag; split <;> omega
theorem vzag_vzig (x : Int) : vzag (vzig x) = x := by unfold vzag vzig; split <;> split <;> omega
theorem vzig_vzag {u : Int} (h : 0 ≤ u) : vzig (vzag u) = u := by unfold vzag vzig; split <;> split <;> omega
end Go.Proofs.YtdcgkjcefbceeaaDoor

/- Contracts of varint's functions that only compute with numbers. -/









namespace Go.Proofs.YtdcgkjcefbceeaaDoor

open Go.RowKit

theorem rzig_any (x : Int) (w : World) (h0 : -9223372036854775808 ≤ x) (h1 : x ≤ 9223372036854775807) :
    Calls Tryd.prog 72 #[.int .i64 x] w fun e w' => e = .returned (.int .u64 (vzig x)) ∧ w = w' := by
  by_cases hx : x < 0
  · go_enter Tryd.func72, Tryd.ntmps72
    go_wp2
    go_ret
    exact ⟨ret_int (by rw [vzig_neg hx]; omega), rfl⟩
  · go_enter Tryd.func72, Tryd.ntmps72
    go_wp2
    go_ret
    exact ⟨ret_int (by rw [vzig_pos (by omega)]), rfl⟩
end Go.Proofs.YtdcgkjcefbceeaaDoor

/- The contract of the reference's Put. -/



namespace Go.Proofs.YtdcgkjcefbceeaaDoor

open Go.RowKit

/-- What the loop holds: the bytes m are laid down, y is still to come. -/
def RPutRel (l : List UInt8) (X : Nat) (w : World) (t : TypeId) (x v : Value) (wr : World) : Prop :=
  ∃ (y : Nat) (m : List UInt8), x = .int .u64 (y : Int) ∧ (y : Int) < 18446744073709551616 ∧ m ++ vput y = l ++ vput X ∧ wr.ownsRow w.heap.size t 1 v m.length (m.map bv) ∧ Below w.heap.size w wr

theorem bv_low {y : Nat} (h : y < 256) : Value.int .u8 (y : Int) = bv (UInt8.ofNat y) := by unfold bv; congr 1; simp; omega

end Go.Proofs.YtdcgkjcefbceeaaDoor

/- The contract of varint.Put. -/





namespace Go.Proofs.YtdcgkjcefbceeaaDoor

open Go.RowKit

/-- What the loop holds: j bytes are laid down behind l. -/
def PutRel (l : List UInt8) (X k : Nat) (w : World) (t : TypeId) (x i : Value) (wr : World) : Prop :=
  ∃ j : Nat, i = .int .i64 (j : Int) ∧ j + 1 ≤ k ∧ x = .int .u64 ((X / 128 ^ j : Nat) : Int) ∧ Row wr w.heap.size t ((l ++ (vput X).take j).map bv ++ List.replicate (k - j) (bv 0)) ∧ Below w.heap.size w wr

end Go.Proofs.YtdcgkjcefbceeaaDoor

/- The contract of varint.Take. -/







namespace Go.Proofs.YtdcgkjcefbceeaaDoor

open Go.RowKit

/-- What a call answers that takes a number off bytes. -/
def RetT (k : IntKind) (w : World) (o : Option (Int × List UInt8)) (e : Ending) (w' : World) : Prop :=
  match o with
  | none => e = .returned (.tuple #[.int k 0, .slice none 0 0, .int .i64 2]) ∧ Below w.heap.size w w'
  | some p => ∃ A c, e = .returned (.tuple #[.int k p.1, .slice A p.2.length c, .int .i64 0]) ∧ (A = none → p.2.length = 0) ∧ p.2.length ≤ c ∧ c ≤ maxLen ∧ OwnB w p.2 (.slice A p.2.length c) w' ∧ Below w.heap.size w w'

/-- What the loop holds: k bytes with their highest bit are read. -/
def TakeRel (l : List UInt8) (x i : Value) : Prop :=
  ∃ (k : Nat) (y : Int), i = .int .i64 (k : Int) ∧ k ≤ 10 ∧ k ≤ l.length ∧ x = .int .u64 y ∧ 0 ≤ y ∧ y < 18446744073709551616 ∧ (k ≤ 9 → y = (vsum (l.take k) : Nat)) ∧ ∀ j (h : j < l.length), j < k → 128 ≤ l[j].toNat

theorem or_shift_bd (y : Int) (d k : Nat) (h0 : 0 ≤ y) (h1 : y < 18446744073709551616) :
    0 ≤ bits .or .u64 y (IntKind.u64.wrap ((d : Int) * 2 ^ (7 * k))) ∧ bits .or .u64 y (IntKind.u64.wrap ((d : Int) * 2 ^ (7 * k))) < 18446744073709551616 := by
  rw [u64_or y _ h0 h1 (by rw [IntKind.wrap_u64]; omega) (by rw [IntKind.wrap_u64]; omega)]
  have : y.toNat ||| (IntKind.u64.wrap ((d : Int) * 2 ^ (7 * k))).toNat < 2 ^ 64 := Nat.or_lt_two_pow (by omega) (by rw [IntKind.wrap_u64]; omega)
  omega
theorem or_shift_eq (a d k : Nat) (ha : a < 128 ^ k) (hk : k ≤ 9) (hd : 128 ^ k * d < 18446744073709551616) :
    bits .or .u64 (a : Int) (IntKind.u64.wrap ((d : Int) * 2 ^ (7 * k))) = ((a + 128 ^ k * d : Nat) : Int) := by
  have h1 : (128 : Nat) ^ k = 2 ^ (7 * k) := by rw [Nat.pow_mul]
  have h2 : (128 : Nat) ^ k ≤ 128 ^ 9 := Nat.pow_le_pow_right (by omega) hk
  have h3 : (128 : Nat) ^ 9 = 9223372036854775808 := by decide
  rw [h1] at ha hd ⊢
  have h4 : ((d : Int) * 2 ^ (7 * k)) = ((d * 2 ^ (7 * k) : Nat) : Int) := by push_cast; rfl
  rw [h4, IntKind.wrap_u64, Int.emod_eq_of_lt (by omega) (by rw [Nat.mul_comm]; omega), u64_join (7 * k) a d ha (by rw [Nat.mul_comm]; exact hd) (by omega), Nat.mul_comm d]

end Go.Proofs.YtdcgkjcefbceeaaDoor

/- The contract of the reference's Take. -/











namespace Go.Proofs.YtdcgkjcefbceeaaDoor

open Go.RowKit

def RTakeRel (l : List UInt8) (i : Value) : Prop :=
  ∃ k : Nat, i = .int .i64 (k : Int) ∧ k ≤ 9 ∧ k ≤ l.length ∧ ∀ j (h : j < l.length), j < k → 128 ≤ l[j].toNat

def RTakeRel2 (l : List UInt8) (n : Nat) (x i : Value) : Prop :=
  ∃ m : Nat, i = .int .i64 ((m : Int) - 1) ∧ m ≤ n + 1 ∧ x = .int .u64 ((vsum ((l.take (n + 1)).drop m) % 18446744073709551616 : Nat) : Int)

theorem vsum_cut (l : List UInt8) (n m : Nat) (h : m < n + 1) (hl : n < l.length) :
    (128 * (vsum ((l.take (n + 1)).drop (m + 1)) % 18446744073709551616) % 18446744073709551616 + (l[m]'(by omega)).toNat % 128) % 18446744073709551616 = vsum ((l.take (n + 1)).drop m) % 18446744073709551616 := by
  have hm : m < (l.take (n + 1)).length := by rw [List.length_take]; omega
  rw [List.drop_eq_getElem_cons hm, vsum, List.getElem_take]
  omega

end Go.Proofs.YtdcgkjcefbceeaaDoor

/- Contracts of the numbers with a sign, or without, and of what stands at the head of all statements. -/





namespace Go.Proofs.YtdcgkjcefbceeaaDoor

open Go.RowKit

/-- The number that is laid down. -/
def vint (x : Int) (s : Bool) : Nat := if s = true then (vzig x).toNat else (x % 18446744073709551616).toNat
/-- What is taken as a number with a sign, or without. -/
def vtint (l : List UInt8) (s : Bool) : Option (Int × List UInt8) :=
  match vtake l, s with
  | none, _ => none
  | some p, true => some (vzag (p.1 : Int), p.2)
  | some p, false => if 9223372036854775808 ≤ (p.1 : Int) then none else some ((p.1 : Int), p.2)
theorem vtint_none {l : List UInt8} (s : Bool) (h : vtake l = none) : vtint l s = none := by unfold vtint; rw [h]
theorem vtint_true {l r : List UInt8} {u : Nat} (h : vtake l = some (u, r)) : vtint l true = some (vzag (u : Int), r) := by unfold vtint; rw [h]
theorem vtint_small {l r : List UInt8} {u : Nat} (h : vtake l = some (u, r)) (hu : (u : Int) < 9223372036854775808) : vtint l false = some ((u : Int), r) := by
  unfold vtint; rw [h]; exact if_neg (by show ¬ (9223372036854775808 : Int) ≤ (u : Int); omega)
theorem vtint_big {l r : List UInt8} {u : Nat} (h : vtake l = some (u, r)) (hu : 9223372036854775808 ≤ (u : Int)) : vtint l false = none := by
  unfold vtint; rw [h]; exact if_pos hu

end Go.Proofs.YtdcgkjcefbceeaaDoor

/- The contracts of varint and of its reference, said of opaque values that hold bytes. -/



namespace Go.Proofs.YtdcgkjcefbceeaaDoor

open Go.RowKit

def TakenN (o : Option (Int × List UInt8)) : Int := match o with | none => 0 | some p => p.1
def TakenR (o : Option (Int × List UInt8)) : List UInt8 := match o with | none => [] | some p => p.2
def TakenE (o : Option (Int × List UInt8)) : Int := match o with | none => 2 | some _ => 0
theorem RetT.parts {k : IntKind} {w w' : World} {o : Option (Int × List UInt8)} {e : Ending} (h : RetT k w o e w') :
    ∃ r, e = .returned (.tuple #[.int k (TakenN o), r, .int .i64 (TakenE o)]) ∧ IsB (TakenR o) r w' ∧ Below w.heap.size w w' := by
  cases o with
  | none => exact ⟨_, h.1, isB_nil _, h.2⟩
  | some p =>
    obtain ⟨A, c, h1, h2, h3, h4, h5, h6⟩ := h
    exact ⟨_, h1, h5.isB, h6⟩
theorem RetT.owned {k : IntKind} {w w' : World} {o : Option (Int × List UInt8)} {e : Ending} (h : RetT k w o e w') :
    ∃ r, e = .returned (.tuple #[.int k (TakenN o), r, .int .i64 (TakenE o)]) ∧ OwnB w (TakenR o) r w' ∧ Below w.heap.size w w' := by
  cases o with
  | none => exact ⟨_, h.1, OwnB.nil _ _, h.2⟩
  | some p =>
    obtain ⟨A, c, h1, h2, h3, h4, h5, h6⟩ := h
    exact ⟨_, h1, h5, h6⟩
end Go.Proofs.YtdcgkjcefbceeaaDoor

/- Slices of values of one cell, of whatever kind (numbers, truths, texts): f tells a value's cell. Over any program but for the last lines. -/







namespace Go.Proofs.YtdcgkjcefbceeaaDoor

open Go.RowKit Go.ChangeShapes Go.WideShapes Go.ChangeAt

/-- The slice v holds l. (IsB is this at bv, IsU at uv.) -/
def IsV {α : Type} (f : α → Value) (l : List α) (v : Value) (w : World) : Prop := ∃ A c, v = .slice A l.length c ∧ (A = none → l.length = 0) ∧ l.length ≤ c ∧ c ≤ maxLen ∧ Lies w A (l.map f)
section

variable {α : Type} {f : α → Value} {l : List α} {v : Value} {w w' : World}
theorem IsV.below (h : IsV f l v w) (hb : Below w.heap.size w w') : IsV f l v w' := by
  obtain ⟨A, c, h1, h2, h3, h4, h5⟩ := h
  exact ⟨A, c, h1, h2, h3, h4, h5.below hb⟩
theorem isV_nil (f : α → Value) (w : World) : IsV f [] (.slice none 0 0) w := ⟨none, 0, rfl, by simp, by simp, by unfold maxLen; omega, Lies.nil⟩
theorem isV_row {g : Nat} {t : TypeId} {m : Nat} (h : Row w g t (l.map f)) (hl : l.length = m) (hm : m ≤ 1000000) : IsV f l (.slice (some ⟨g, 0, none⟩) m m) w := by
  subst hl
  exact ⟨_, _, rfl, by simp, Nat.le_refl _, by unfold maxLen; omega, by simpa using h.lies 0⟩
theorem isV_new (f : α → Value) (w : World) (t : TypeId) (l : List α) (m : Nat) (hl : l.length = m) (hm : m ≤ 1000000) : IsV f l (.slice (some ⟨w.heap.size, 0, none⟩) m m) (w.alloc (.cells (l.map f).toArray t)) := by
  have h : Row (w.alloc (.cells (l.map f).toArray t)) w.heap.size t (l.map f) := heap_alloc_new w _
  exact isV_row h hl hm
theorem isV_own {base : Nat} {e : TypeId} {n : Nat} (h : w.ownsRow base e 1 v n (l.map f)) : IsV f l v w := by
  obtain ⟨B, c, rfl, hnc, hcm, _, hl, hlen⟩ := own_shape h
  rw [List.length_map] at hlen
  subst hlen
  refine ⟨B, c, rfl, ?_, hnc, hcm, hl⟩
  intro hB
  subst hB
  rcases hl with hl | ⟨ad, h, _⟩
  · simpa using hl
  · cases h
theorem vs_one {f : α → Value} (h : ∀ x, (f x).oneCell' = true) (l : List α) : ∀ u ∈ l.map f, u.oneCell' = true := by
  intro u hu
  obtain ⟨b, _, rfl⟩ := List.mem_map.1 hu
  exact h b
theorem IsV.cell (h : IsV f l v w) {k : Nat} (hk : k < l.length) : ∃ ad c, v = .slice (some ad) l.length c ∧ ad.block < w.heap.size ∧ w.cell? (ad.add k) = some (f l[k]) := by
  obtain ⟨A, c, h1, _, _, _, h5⟩ := h
  obtain ⟨ad, rfl, h2, h3⟩ := h5.cell (k := k) (by rw [List.length_map]; exact hk)
  exact ⟨ad, c, h1, h2, by rw [h3, List.getElem_map]⟩
theorem IsV.at {A : Option Addr} {n c : Nat} (h : IsV f l (.slice A n c) w) {k : Nat} (hk : k < l.length) : ∃ ad, A = some ad ∧ ad.block < w.heap.size ∧ w.cell? (ad.add k) = some (f l[k]) := by
  obtain ⟨ad, c', h1, h2, h3⟩ := h.cell hk
  injection h1 with h1 _ _
  exact ⟨ad, h1, h2, h3⟩
theorem IsV.len {A : Option Addr} {n c : Nat} (h : IsV f l (.slice A n c) w) : n = l.length := by
  obtain ⟨A', c', h1, _⟩ := h
  injection h1
/-- The first k of it, by x[:k]. -/
theorem IsV.take {A : Option Addr} {n c : Nat} (h : IsV f l (.slice A n c) w) {k : Nat} (hk : k ≤ n) : IsV f (l.take k) (.slice A k c) w := by
  obtain ⟨A', c', h1, h2, h3, h4, h5⟩ := h
  injection h1 with e1 e2 e3
  subst e1 e2 e3
  have hl : (l.take k).length = k := by rw [List.length_take]; omega
  exact ⟨A, c, by rw [hl], fun h => by have := h2 h; omega, by rw [hl]; omega, h4, by rw [List.map_take]; exact h5.take k⟩
end
/-- What is known of a slice that is written out. -/
theorem IsV.parts {α : Type} {f : α → Value} {l : List α} {w : World} {A : Option Addr} {n c : Nat} (h : IsV f l (.slice A n c) w) : l.length = n ∧ (A = none → n = 0) ∧ n ≤ c ∧ c ≤ maxLen ∧ Lies w A (l.map f) := by
  obtain ⟨A', c', h1, h2, h3, h4, h5⟩ := h
  injection h1 with e1 e2 e3
  subst e1 e2 e3
  exact ⟨rfl, h2, h3, h4, h5⟩
theorem IsV.shape {α : Type} {f : α → Value} {l : List α} {v : Value} {w : World} (h : IsV f l v w) : ∃ A n c, v = .slice A n c := by
  obtain ⟨A', c', h1, _⟩ := h
  exact ⟨_, _, _, h1⟩
theorem isB_iff {l : List UInt8} {v : Value} {w : World} : IsB l v w ↔ IsV bv l v w := Iff.rfl

/-- x[k:] of a slice of values of one cell, as one equation. -/
theorem fromV_named {P : Program} {α : Type} {f : α → Value} {w : World} {t e : TypeId} {bytes : Nat} {z : Value} (E : Elem P t e bytes z) {A : Option Addr} {n c k : Nat} {l : List α} (hk : k ≤ n) (hI : IsV f l (.slice A n c) w) :
    ∃ v, (∀ W, (Instr.sliceAt t (.slice A n c) (some (.int .i64 (k : Int))) none none).run P W = .ok v W) ∧ IsV f (l.drop k) v w := by
  obtain ⟨hxs, hA, hnc, hcm, hl⟩ := hI.parts
  have ht := E.under
  have he : P.elem t = e := by simp [Program.elem, ht]
  refine ⟨.slice (if c = k then A else A.map (·.add k)) (n - k) (c - k), fun W => ?_, if c = k then A else A.map (·.add k), c - k, ?_, ?_, ?_, by omega, ?_⟩
  · rw [run_sliceAt_slice W t _ _ _ _ (by rw [he]; exact ht), run_slice_l W t A n c (by rw [he]; exact ht) .i64 (k : Int) (by omega) (by omega), he, E.size_]
    simp [sliced]
  · rw [List.length_drop, hxs]
  · intro hB
    have : A = none := by
      split at hB
      · exact hB
      · cases A with
        | none => rfl
        | some ad => simp at hB
    have := hA this
    rw [List.length_drop, hxs]
    omega
  · rw [List.length_drop, hxs]; omega
  · rw [List.map_drop]; exact hl.drop (by rw [List.length_map]; omega)

/-- A slice of truths that came in. -/
theorem open_truths {H : Type} {enc : TypeId × Value → H} {P : Program} {t e : TypeId} {W : World} {v : Value} {d : DataW H} {ps : List MemPlace} {base : Nat} (ht : P.underlying t = some (.slice e)) (he : P.underlying e = some .bool) (hc : P.cellsOf e = 1)
    (hval : Value.okWide P W .any base t v) (hd : DataW.Trod enc P W 0 (fun _ => true) true t v d ps) (hlt : ∀ x ∈ ps, x.block < W.heap.size) :
    ∃ l : List Bool, IsV Value.bool l v W := by
  obtain ⟨a0, len, cap, rfl⟩ := okWide_slice ht hval
  obtain ⟨fuel, hf⟩ := hd
  rcases Deep.open_bools ht he hc hf with ⟨hcs, hx⟩ | ⟨a, len', cap', B, hcs, _, hl, hm, hx, hcell⟩
  · simp [Value.cells] at hcs
    obtain ⟨rfl, rfl, rfl⟩ := hcs
    exact ⟨[], isV_nil _ _⟩
  · simp [Value.cells] at hcs
    obtain ⟨rfl, rfl, rfl⟩ := hcs
    simp only [Prod.mk.injEq] at hx
    obtain ⟨rfl, rfl⟩ := hx
    refine ⟨(List.range len).map B, some a, cap, by simp, by simp, by simpa using hl, hm, ?_⟩
    by_cases h0 : len = 0
    · subst h0; exact .inl (by simp)
    · refine .inr ⟨a, rfl, ?_, fun j u hu => ?_⟩
      · have hs : a.spot = none := by
          have := hcell 0 (by omega)
          have h1 : a.add 0 = a := by simp [Addr.add]
          rw [h1] at this
          exact World.cell?_spot this
        obtain ⟨b, off, spot⟩ := a
        exact hlt (.cell b off) (MemPlace.mem_row.2 ⟨0, by omega, by simp⟩)
      · rw [List.getElem?_map, List.getElem?_map] at hu
        by_cases hj : j < len
        · rw [List.getElem?_range hj] at hu
          simp at hu
          subst hu
          exact hcell j (by omega)
        · rw [List.getElem?_eq_none (by simp; omega)] at hu; simp at hu

/-- A slice of bytes that came in, of an opaque value. -/
theorem open_bytesv {H : Type} {enc : TypeId × Value → H} {P : Program} {t e : TypeId} {W : World} {v : Value} {d : DataW H} {ps : List MemPlace} {base : Nat} (ht : P.underlying t = some (.slice e)) (he : P.underlying e = some (.int .u8)) (hc : P.cellsOf e = 1)
    (hval : Value.okWide P W .any base t v) (hd : DataW.Trod enc P W 0 (fun _ => true) true t v d ps) (hlt : ∀ x ∈ ps, x.block < W.heap.size) : ∃ l : List UInt8, IsB l v W := by
  obtain ⟨A, n, c, l, rfl, hA, hn, hnc, hcm, hl⟩ := open_bytes ht he hc hval hd hlt
  subst hn
  exact ⟨l, A, c, rfl, hA, hnc, hcm, hl⟩

/-- Whole numbers with a sign. -/
def iv (x : Int) : Value := .int .i64 x
def inInt (x : Int) : Prop := -9223372036854775808 ≤ x ∧ x ≤ 9223372036854775807
/-- Slices of numbers that came in, of opaque values. -/
theorem open_intsv {H : Type} {enc : TypeId × Value → H} {P : Program} {t e : TypeId} {W : World} {v : Value} {d : DataW H} {ps : List MemPlace} {base : Nat} (ht : P.underlying t = some (.slice e)) (he : P.underlying e = some (.int .i64)) (hc : P.cellsOf e = 1)
    (hval : Value.okWide P W .any base t v) (hd : DataW.Trod enc P W 0 (fun _ => true) true t v d ps) (hlt : ∀ x ∈ ps, x.block < W.heap.size) : ∃ l : List Int, IsV iv l v W ∧ ∀ x ∈ l, inInt x := by
  obtain ⟨A, n, c, zs, rfl, h2, h3, h4, h5, h6, h7⟩ := open_lies ht he hc hval hd hlt
  subst h3
  exact ⟨zs, ⟨A, c, rfl, h2, h4, h5, h6⟩, fun x hx => by simpa [Lit.wf, IntKind.min, IntKind.max, IntKind.signed, IntKind.bits, inInt] using h7 x hx⟩
theorem open_u64v {H : Type} {enc : TypeId × Value → H} {P : Program} {t e : TypeId} {W : World} {v : Value} {d : DataW H} {ps : List MemPlace} {base : Nat} (ht : P.underlying t = some (.slice e)) (he : P.underlying e = some (.int .u64)) (hc : P.cellsOf e = 1)
    (hval : Value.okWide P W .any base t v) (hd : DataW.Trod enc P W 0 (fun _ => true) true t v d ps) (hlt : ∀ x ∈ ps, x.block < W.heap.size) : ∃ l : List Nat, IsV uv l v W ∧ ∀ x ∈ l, x < 2 ^ 64 := by
  obtain ⟨A, n, c, l, rfl, h2, h3, h4, h5, h6, h7⟩ := open_u64s ht he hc hval hd hlt
  subst h3
  exact ⟨l, ⟨A, c, rfl, h2, h4, h5, h6⟩, h7⟩
/-- An array of three whole numbers that came in. -/
theorem open_arr3 {H : Type} {enc : TypeId × Value → H} {P : Program} {k : IntKind} {t e : TypeId} {W : World} {v : Value} {d : DataW H} {ps : List MemPlace} {base : Nat} (ht : P.underlying t = some (.array 3 e)) (he : P.underlying e = some (.int k)) (hc : P.cellsOf e = 1) (hC : P.cellsOf t = 3)
    (hval : Value.okWide P W .any base t v) (hd : DataW.Trod enc P W 0 (fun _ => true) true t v d ps) :
    ∃ a b c : Int, v = .agg #[.int k a, .int k b, .int k c] ∧ (Lit.int k a).wf = true ∧ (Lit.int k b).wf = true ∧ (Lit.int k c).wf = true := by
  unfold Value.okWide at hval
  rw [ht] at hval
  obtain ⟨cs, rfl, hsz, _⟩ := hval
  obtain ⟨fuel, hf⟩ := hd
  obtain ⟨xs, m, _, _, _, hlen, hx⟩ := DataW.trod_array ht hf
  match xs, hlen with
  | [y0, y1, y2], _ =>
    rw [hC] at hsz
    obtain ⟨c0, c1, c2, rfl⟩ : ∃ c0 c1 c2, cs = #[c0, c1, c2] := by
      obtain ⟨l⟩ := cs
      match l, hsz with
      | [c0, c1, c2], _ => exact ⟨c0, c1, c2, rfl⟩
    have h0 := hx 0 (by omega)
    have h1 := hx 1 (by omega)
    have h2 := hx 2 (by omega)
    rw [hc] at h0 h1 h2
    simp [Value.cells] at h0 h1 h2
    obtain ⟨a, ha, _, hwa⟩ := DataW.trod_int he h0
    obtain ⟨b, hb, _, hwb⟩ := DataW.trod_int he h1
    obtain ⟨c, hcc, _, hwc⟩ := DataW.trod_int he h2
    simp at ha hb hcc
    subst ha hb hcc
    exact ⟨a, b, c, rfl, hwa, hwb, hwc⟩

theorem Tryd.infoL : (Tryd.prog.info? 4).map (fun i => (i.zero, i.size, i.bytes)) = some (some (.bool false), 1, 1) := by kernel_rfl
theorem Tryd.infoI : (Tryd.prog.info? 3).map (fun i => (i.zero, i.size, i.bytes)) = some (some (.int .i64 0), 1, 8) := by kernel_rfl
theorem elemI : Elem Tryd.prog 22 3 8 (.int .i64 0) := by
  obtain ⟨i0, hi, hz0, hz1, hz2⟩ := info_parts Tryd.infoI
  exact ⟨Tryd.underlying22, rfl, i0, hi, hz0, hz1, hz2⟩
end Go.Proofs.YtdcgkjcefbceeaaDoor

/- A number a few times (layer 7), as plain mathematics. -/







namespace Go.Proofs.YtdcgkjcefbceeaaDoor

/-- How many bytes a number needs. -/
def ebytes (u : Nat) : Nat := max 1 ((wbits u + 7) / 8)
theorem ebytes_pos (u : Nat) : 1 ≤ ebytes u := Nat.le_max_left _ _
theorem ebytes_8 {u : Nat} (h : u < 2 ^ 64) : ebytes u ≤ 8 := by have := wbits_64 h; unfold ebytes; omega
theorem ebytes_room {u : Nat} (h : u < 2 ^ 64) : u < 256 ^ ebytes u := by
  rw [p256]
  exact Nat.lt_of_lt_of_le (wbits_lt h) (Nat.pow_le_pow_right (by omega) (by unfold ebytes; omega))
theorem ebytes_least {u n : Nat} (h : u < 2 ^ 64) (hn : 1 ≤ n) (h8 : n ≤ 8) (hu : u < 256 ^ n) : ebytes u ≤ n := by
  rw [p256] at hu
  have := (wbits_iff h (show 8 * n ≤ 64 by omega)).2 hu
  unfold ebytes
  omega
/-- A number as it stands; none: it may not be. -/
def eplain (x : Int) (s : Bool) : Option Nat := if s then some (vzig x).toNat else if 0 ≤ x then some x.toNat else none
def emade (u : Nat) (s : Bool) : Option Int := if s then some (vzag (u : Int)) else if u < 9223372036854775808 then some (u : Int) else none
theorem eplain_lt {x : Int} {s : Bool} {u : Nat} (h0 : -9223372036854775808 ≤ x) (h1 : x ≤ 9223372036854775807) (h : eplain x s = some u) : u < 2 ^ 64 := by
  have := vzig_bd h0 h1
  unfold eplain at h
  cases s <;> simp at h
  · omega
  · omega
theorem emade_eplain {x : Int} {s : Bool} {u : Nat} (h0 : -9223372036854775808 ≤ x) (h1 : x ≤ 9223372036854775807) (h : eplain x s = some u) : emade u s = some x := by
  have hb := vzig_bd h0 h1
  unfold eplain at h
  unfold emade
  cases s with
  | true =>
    simp at h
    rw [if_pos rfl, ← h, show (((vzig x).toNat : Nat) : Int) = vzig x by omega, vzag_vzig]
  | false =>
    simp at h
    rw [if_neg (by simp), if_pos (by omega)]
    congr 1
    omega
theorem eplain_emade {x : Int} {s : Bool} {u : Nat} (h : emade u s = some x) : eplain x s = some u := by
  unfold emade at h
  unfold eplain
  cases s with
  | true =>
    simp at h
    rw [if_pos rfl, ← h, vzig_vzag (by omega)]
    simp
  | false =>
    simp at h
    rw [if_neg (by simp), if_pos (by omega)]
    congr 1
    omega
theorem emade_bd {x : Int} {s : Bool} {u : Nat} (hu : u < 2 ^ 64) (h : emade u s = some x) : -9223372036854775808 ≤ x ∧ x ≤ 9223372036854775807 := by
  unfold emade at h
  cases s with
  | true => simp at h; have := vzag_bd (u := (u : Int)) (by omega) (by omega); omega
  | false => simp at h; omega
/-- A repeat of a number as it stands. -/
def elay (u t : Nat) : List UInt8 := UInt8.ofNat (8 * (ebytes u - 1) + (t - 3)) :: be (ebytes u) u
theorem elay_len (u t : Nat) : (elay u t).length = ebytes u + 1 := by simp [elay, be_len]
/-- What Put answers. -/
def eput (x t : Int) (s : Bool) : List UInt8 × Int :=
  if t < 3 ∨ 10 < t then ([], 1) else match eplain x s with | none => ([], 1) | some u => (elay u t.toNat, 0)
/-- What Take answers: the number, the times, the bytes behind, an error. -/
def etake (l : List UInt8) (s : Bool) : Int × Int × List UInt8 × Int :=
  match l with
  | [] => (0, 0, [], 2)
  | b :: r =>
    if 64 ≤ b.toNat then (0, 0, [], 2)
    else if r.length < b.toNat / 8 + 1 then (0, 0, [], 2)
    else if ebytes (bval (r.take (b.toNat / 8 + 1))) ≠ b.toNat / 8 + 1 then (0, 0, [], 2)
    else match emade (bval (r.take (b.toNat / 8 + 1))) s with
      | none => (0, 0, [], 2)
      | some x => (x, ((b.toNat % 8 + 3 : Nat) : Int), r.drop (b.toNat / 8 + 1), 0)
/-- P7.2. -/
theorem etake_back {u t : Nat} {x : Int} {s : Bool} (hu : u < 2 ^ 64) (h3 : 3 ≤ t) (h10 : t ≤ 10) (hx : emade u s = some x) (b : List UInt8) : etake (elay u t ++ b) s = (x, (t : Int), b, 0) := by
  have h1 := ebytes_pos u
  have h8 := ebytes_8 hu
  have hr := ebytes_room hu
  have hc : (UInt8.ofNat (8 * (ebytes u - 1) + (t - 3))).toNat = 8 * (ebytes u - 1) + (t - 3) := by rw [UInt8.toNat_ofNat']; omega
  have hd : (8 * (ebytes u - 1) + (t - 3)) / 8 + 1 = ebytes u := by omega
  have hm : (8 * (ebytes u - 1) + (t - 3)) % 8 + 3 = t := by omega
  have hl := be_len (ebytes u) u
  have ht : (be (ebytes u) u ++ b).take (ebytes u) = be (ebytes u) u := by
    conv => lhs; rw [show ebytes u = (be (ebytes u) u).length from hl.symm]
    rw [hl]
    conv => lhs; arg 1; rw [← hl]
    simp
  have hv : bval (be (ebytes u) u) = u := by rw [bval_be, Nat.mod_eq_of_lt hr]
  have hdr : (be (ebytes u) u ++ b).drop (ebytes u) = b := by
    have := List.drop_left (l₁ := be (ebytes u) u) (l₂ := b)
    rwa [hl] at this
  unfold elay etake
  rw [List.cons_append]
  simp only [hc, hd, hm]
  rw [if_neg (by omega), if_neg (by rw [List.length_append, hl]; omega), ht, hv, if_neg (by simp), hx]
  simp only [hdr]
/-- What is cut is none. -/
theorem etake_cut {u t : Nat} {s : Bool} (hu : u < 2 ^ 64) (h3 : 3 ≤ t) (h10 : t ≤ 10) {i : Nat} (hi : i < (elay u t).length) : etake ((elay u t).take i) s = (0, 0, [], 2) := by
  have h1 := ebytes_pos u
  have h8 := ebytes_8 hu
  have hc : (UInt8.ofNat (8 * (ebytes u - 1) + (t - 3))).toNat = 8 * (ebytes u - 1) + (t - 3) := by rw [UInt8.toNat_ofNat']; omega
  have hd : (8 * (ebytes u - 1) + (t - 3)) / 8 + 1 = ebytes u := by omega
  rw [elay_len] at hi
  unfold elay
  cases i with
  | zero => rfl
  | succ i =>
    rw [List.take_succ_cons]
    unfold etake
    simp only [hc, hd]
    rw [if_neg (by omega), if_pos (by rw [List.length_take, be_len]; omega)]
end Go.Proofs.YtdcgkjcefbceeaaDoor

/- Contracts of layer 7's reference: Plain, Made, Put. -/







namespace Go.Proofs.YtdcgkjcefbceeaaDoor

open Go.RowKit

theorem rplain7_any (x : Int) (s : Bool) (w : World) (h0 : -9223372036854775808 ≤ x) (h1 : x ≤ 9223372036854775807) :
    Calls Tryd.prog 59 #[.int .i64 x, .bool s] w fun e w' => e = .returned (.tuple #[.int .u64 (((eplain x s).getD 0 : Nat) : Int), .bool (eplain x s).isSome]) ∧ w = w' := by
  cases s with
  | true =>
    have hE := Lib.hid (show eplain x true = some (vzig x).toNat by unfold eplain; rw [if_pos rfl])
    have hb := Lib.hid (vzig_bd h0 h1)
    go_enter Tryd.func59, Tryd.ntmps59
    go_wp2_with (go_at_call 72; refine (rzig_any x _ h0 h1).mono ?_; rintro e w' ⟨rfl, rfl⟩)
    go_ret2
    rw [hE.out]
    exact ⟨by rw [Option.getD_some, Option.isSome_some, Int.toNat_of_nonneg hb.out.1]; rfl, rfl⟩
  | false =>
    by_cases hx : 0 ≤ x
    · have hE := Lib.hid (show eplain x false = some x.toNat by unfold eplain; rw [if_neg (by simp), if_pos hx])
      have d : decide (0 ≤ x) = true := decide_eq_true hx
      have hm : ∀ (ts : Array TypeId) (t : TypeId) (W : World), (Builtin.max_ ts t #[.int .i64 x, .int .i64 0]).run Tryd.prog W = .ok (.int .i64 x) W := fun ts t W => by
        rw [run_max_int2]
        congr 2
        split <;> omega
      go_enter Tryd.func59, Tryd.ntmps59
      go_wp2
      go_ret2
      rw [hE.out]
      exact ⟨by rw [Option.getD_some, Option.isSome_some, Int.toNat_of_nonneg hx]; rfl, rfl⟩
    · have hE := Lib.hid (show eplain x false = none by unfold eplain; rw [if_neg (by simp), if_neg hx])
      have d : decide (0 ≤ x) = false := decide_eq_false hx
      have hm : ∀ (ts : Array TypeId) (t : TypeId) (W : World), (Builtin.max_ ts t #[.int .i64 x, .int .i64 0]).run Tryd.prog W = .ok (.int .i64 0) W := fun ts t W => by
        rw [run_max_int2]
        congr 2
        split <;> omega
      go_enter Tryd.func59, Tryd.ntmps59
      go_wp2
      go_ret2
      rw [hE.out]
      exact ⟨rfl, rfl⟩
theorem emade_true (u : Nat) : emade u true = some (vzag (u : Int)) := by unfold emade; rw [if_pos rfl]
theorem emade_low {U : Int} (h0 : 0 ≤ U) (h : U < 9223372036854775808) : emade U.toNat false = some U := by unfold emade; rw [if_neg (by simp), if_pos (by omega), Int.toNat_of_nonneg h0]
theorem emade_high {U : Int} (h : 9223372036854775808 ≤ U) : emade U.toNat false = none := by unfold emade; rw [if_neg (by simp), if_neg (by omega)]
theorem bv_low7 {y : Nat} (h : y < 256) : Value.int .u8 (y : Int) = bv (UInt8.ofNat y) := by unfold bv; congr 1; simp; omega
theorem own_one (w : World) (e : TypeId) (u : Value) {base : Nat} (hb : base ≤ w.heap.size) : (w.alloc (.cells #[u] e)).ownsRow base e 1 (.slice (some ⟨w.heap.size, 0, none⟩) 1 1) 1 [u] :=
  ⟨by simp, .inr ⟨w.heap.size, 1, #[u], rfl, hb, heap_alloc_new w _, Nat.le_refl _, by unfold maxLen; omega, by simp, by simp⟩⟩
theorem eput_times {x t : Int} {s : Bool} (h : t < 3 ∨ 10 < t) : eput x t s = ([], 1) := by unfold eput; rw [if_pos h]
theorem eput_not {x t : Int} {s : Bool} (h : eplain x s = none) : eput x t s = ([], 1) := by unfold eput; split <;> simp [h]
theorem eput_ok {x : Int} {t u : Nat} {s : Bool} (h3 : 3 ≤ t) (h10 : t ≤ 10) (h : eplain x s = some u) : eput x t s = (elay u t, 0) := by
  unfold eput
  rw [if_neg (by omega), h, Int.toNat_natCast]
def RPut7Rel (l : List UInt8) (n u : Nat) (w : World) (v i : Value) (wr : World) : Prop :=
  ∃ (k : Nat) (m : List UInt8), k ≤ n ∧ i = .int .i64 ((k : Int) - 1) ∧ m ++ be k u = l ∧ wr.ownsRow w.heap.size 5 1 v m.length (m.map bv) ∧ Below w.heap.size w wr
end Go.Proofs.YtdcgkjcefbceeaaDoor

/- The contract of layer 7's reference's Take. -/



namespace Go.Proofs.YtdcgkjcefbceeaaDoor

open Go.RowKit

theorem results_tmp4 {fn : Func} {t u v x : Tmp} (h : fn.results = #[.tmp t, .tmp u, .tmp v, .tmp x]) (tmps : Array Value) (P : Program) (w : World) :
    (results fn tmps).run P w = .ok (.tuple #[tmps.getD t undef, tmps.getD u undef, tmps.getD v undef, tmps.getD x undef]) w := by
  simp [results, h]
theorem gives_not {P : Program} {o : Oper} {ρ : Operand → Value} {w : World} {R : Value → World → Prop} {t : TypeId} {x : Operand} {b : Bool} (ho : o.op = .unOp .not t x) (hx : ρ x = .bool b) (hR : R (.bool !b) w) : Gives P o ρ w R := by
  refine gives_of (v := .bool !b) (w' := w) ?_ hR
  simp [execOp, ho, hx, go_sem]

/-- A number, how often, bytes and an error that a call answers. -/
def RetT7 (w : World) (p : Int × Int × List UInt8 × Int) (e : Ending) (w' : World) : Prop :=
  ∃ v, e = .returned (.tuple #[.int .i64 p.1, .int .i64 p.2.1, v, .int .i64 p.2.2.2]) ∧ IsB p.2.2.1 v w' ∧ Below w.heap.size w w'
theorem RetT7.no {w w' : World} (hb : Below w.heap.size w w') : RetT7 w (0, 0, [], 2) (.returned (.tuple #[.int .i64 0, .int .i64 0, .slice none 0 0, .int .i64 2])) w' := ⟨_, rfl, isB_nil _, hb⟩
/-- The same, the bytes in a row of the call's own. -/
def RetT7O (w : World) (p : Int × Int × List UInt8 × Int) (e : Ending) (w' : World) : Prop :=
  ∃ v, e = .returned (.tuple #[.int .i64 p.1, .int .i64 p.2.1, v, .int .i64 p.2.2.2]) ∧ OwnB w p.2.2.1 v w' ∧ Below w.heap.size w w'
theorem RetT7O.no {w w' : World} (hb : Below w.heap.size w w') : RetT7O w (0, 0, [], 2) (.returned (.tuple #[.int .i64 0, .int .i64 0, .slice none 0 0, .int .i64 2])) w' := ⟨_, rfl, OwnB.nil _ _, hb⟩
theorem RetT7O.t7 {w w' : World} {p : Int × Int × List UInt8 × Int} {e : Ending} (h : RetT7O w p e w') : RetT7 w p e w' := by
  obtain ⟨v, h1, h2, h3⟩ := h
  exact ⟨v, h1, h2.isB, h3⟩
theorem etake_nil (s : Bool) : etake [] s = (0, 0, [], 2) := rfl
theorem etake_big {l : List UInt8} {s : Bool} (h0 : 0 < l.length) (h : 64 ≤ l[0].toNat) : etake l s = (0, 0, [], 2) := by
  cases l with
  | nil => simp at h0
  | cons b r => simp at h; unfold etake; simp only []; rw [if_pos h]
theorem etake_short {l : List UInt8} {s : Bool} {K : Nat} (h0 : 0 < l.length) (hK : K = l[0].toNat / 8 + 1) (h : l.length < K + 1) : etake l s = (0, 0, [], 2) := by
  cases l with
  | nil => simp at h0
  | cons b r =>
    simp at hK h
    unfold etake; simp only []
    rw [← hK]
    split
    · rfl
    · first | rfl | rw [if_pos (by omega)]
theorem etake_none {l : List UInt8} {s : Bool} {K u : Nat} (h0 : 0 < l.length) (hK : K = l[0].toNat / 8 + 1) (hu : u = bval ((l.drop 1).take K)) (h : emade u s = none ∨ ebytes u ≠ K) : etake l s = (0, 0, [], 2) := by
  cases l with
  | nil => simp at h0
  | cons b r =>
    simp at hK hu
    unfold etake; simp only []
    rw [← hK, ← hu]
    split
    · rfl
    split
    · rfl
    split
    · rfl
    · rename_i h3
      rcases h with h | h
      · rw [h]
      · exact absurd h h3
theorem etake_some {l : List UInt8} {s : Bool} {K u : Nat} {x : Int} (h0 : 0 < l.length) (hK : K = l[0].toNat / 8 + 1) (h64 : l[0].toNat < 64) (hl : K + 1 ≤ l.length) (hu : u = bval ((l.drop 1).take K)) (h : emade u s = some x) (hb : ebytes u = K) :
    etake l s = (x, ((l[0].toNat % 8 + 3 : Nat) : Int), l.drop (K + 1), 0) := by
  cases l with
  | nil => simp at h0
  | cons b r =>
    simp at hK hu hl h64
    unfold etake; simp only []
    rw [← hK, ← hu, if_neg (by omega), if_neg (by omega), if_neg (by omega), h]
    simp
theorem elay_same {l : List UInt8} {K u T : Nat} (h0 : 0 < l.length) (hK : K = l[0].toNat / 8 + 1) (hT : T = l[0].toNat % 8 + 3) (hl : K + 1 ≤ l.length) (hu : u = bval ((l.drop 1).take K)) : elay u T = l.take (K + 1) ↔ ebytes u = K := by
  cases l with
  | nil => simp at h0
  | cons b r =>
    simp at hK hu hl hT
    rw [List.take_succ_cons]
    constructor
    · intro h
      have h1 := congrArg List.length h
      rw [elay_len, List.length_cons, List.length_take] at h1
      omega
    · intro h
      unfold elay
      rw [h, show 8 * (K - 1) + (T - 3) = b.toNat by omega, UInt8.ofNat_toNat]
      congr 1
      exact (eq_be (by rw [List.length_take]; omega) hu.symm).symm
theorem bval_at (r : List UInt8) (k : Nat) (h : k < r.length) : bval (r.take (k + 1)) = 256 * bval (r.take k) + r[k].toNat := by
  rw [List.take_succ_eq_append_getElem h, bval_append]
  simp [bval]
  omega
theorem bval_seven (r : List UInt8) {k : Nat} (h : k ≤ 7) : ((bval (r.take k) : Nat) : Int) < 72057594037927936 := by
  have h1 := bval_lt (r.take k)
  have h2 : 256 ^ (r.take k).length ≤ 256 ^ 7 := Nat.pow_le_pow_right (by omega) (by rw [List.length_take]; omega)
  omega
theorem bval_eight (r : List UInt8) {k : Nat} (h : k ≤ 8) : bval (r.take k) < 2 ^ 64 := by
  have h1 := bval_lt (r.take k)
  have h2 : 256 ^ (r.take k).length ≤ 256 ^ 8 := Nat.pow_le_pow_right (by omega) (by rw [List.length_take]; omega)
  omega
def RTake7Rel (r : List UInt8) (K : Nat) (v i : Value) : Prop := ∃ (k : Nat) (U : Int), k ≤ K ∧ i = .int .i64 (k : Int) ∧ v = .int .u64 U ∧ U = ((bval (r.take k) : Nat) : Int)
end Go.Proofs.YtdcgkjcefbceeaaDoor

/- Values of one cell each in a row of the call's own. Over any program. -/





namespace Go.Proofs.YtdcgkjcefbceeaaDoor

open Go.RowKit

def OwnV {α : Type} (f : α → Value) (e : TypeId) (w : World) (l : List α) (v : Value) (w' : World) : Prop := ∃ n, w'.ownsRow w.heap.size e 1 v n (l.map f)
section

variable {α : Type} {f : α → Value} {e : TypeId} {w w0 w1 w2 : World} {l : List α} {v : Value}
theorem OwnV.isV (h : OwnV f e w l v w1) : IsV f l v w1 := h.elim fun _ h => isV_own h
theorem OwnV.nil (f : α → Value) (e : TypeId) (w w' : World) : OwnV f e w [] (.slice none 0 0) w' := ⟨0, World.ownsRow_nil _ _ _ _⟩
theorem OwnV.below (h : OwnV f e w l v w1) (hb : Below w1.heap.size w1 w2) : OwnV f e w l v w2 := h.elim fun _ h => ⟨_, own_below h hb⟩
theorem OwnV.base (hb : w0.heap.size ≤ w.heap.size) (h : OwnV f e w l v w1) : OwnV f e w0 l v w1 := h.elim fun _ h => ⟨_, own_base hb h⟩
end

end Go.Proofs.YtdcgkjcefbceeaaDoor

/- Numbers packed as they are (layer 8), as plain mathematics: heads, numbers as they stand, runs. -/







namespace Go.Proofs.YtdcgkjcefbceeaaDoor

/-- f of each; none, if it is none of one. -/
def omap {α β : Type} (f : α → Option β) : List α → Option (List β)
  | [] => some []
  | x :: l => match f x with | none => none | some y => match omap f l with | none => none | some ys => some (y :: ys)
section

variable {α β : Type} {f : α → Option β}
theorem omap_snoc (l : List α) (x : α) : omap f (l ++ [x]) = match omap f l with | none => none | some ys => match f x with | none => none | some y => some (ys ++ [y]) := by
  induction l with
  | nil => simp only [List.nil_append, omap]
  | cons z l ih =>
    rw [List.cons_append, omap, omap, ih]
    cases f z with
    | none => rfl
    | some y => cases omap f l with
      | none => rfl
      | some ys => cases f x <;> rfl
theorem omap_none {l : List α} {x : α} (hx : x ∈ l) (h : f x = none) : omap f l = none := by
  induction l with
  | nil => cases hx
  | cons z l ih =>
    rw [omap]
    rcases List.mem_cons.1 hx with rfl | hx
    · rw [h]
    · rw [ih hx]; cases f z <;> rfl
theorem omap_len {l : List α} {ys : List β} (h : omap f l = some ys) : ys.length = l.length := by
  induction l generalizing ys with
  | nil => simp [omap] at h; subst h; rfl
  | cons z l ih =>
    rw [omap] at h
    cases hz : f z with
    | none => rw [hz] at h; cases h
    | some y =>
      rw [hz] at h
      cases hl : omap f l with
      | none => rw [hl] at h; cases h
      | some zs =>
        rw [hl] at h
        injection h with h
        subst h
        rw [List.length_cons, List.length_cons, ih hl]
theorem omap_mem {l : List α} {ys : List β} (h : omap f l = some ys) {y : β} (hy : y ∈ ys) : ∃ x ∈ l, f x = some y := by
  induction l generalizing ys with
  | nil => simp [omap] at h; subst h; cases hy
  | cons z l ih =>
    rw [omap] at h
    cases hz : f z with
    | none => rw [hz] at h; cases h
    | some u =>
      rw [hz] at h
      cases hl : omap f l with
      | none => rw [hl] at h; cases h
      | some zs =>
        rw [hl] at h
        injection h with h
        subst h
        rcases List.mem_cons.1 hy with rfl | hy
        · exact ⟨z, List.mem_cons_self, hz⟩
        · obtain ⟨x, hx, hf⟩ := ih hl hy
          exact ⟨x, List.mem_cons_of_mem _ hx, hf⟩
theorem omap_back {g : β → Option α} {l : List α} {ys : List β} (hg : ∀ x ∈ l, ∀ y, f x = some y → g y = some x) (h : omap f l = some ys) : omap g ys = some l := by
  induction l generalizing ys with
  | nil => simp [omap] at h; subst h; rfl
  | cons z l ih =>
    rw [omap] at h
    cases hz : f z with
    | none => rw [hz] at h; cases h
    | some u =>
      rw [hz] at h
      cases hl : omap f l with
      | none => rw [hl] at h; cases h
      | some zs =>
        rw [hl] at h
        injection h with h
        subst h
        rw [omap, hg z List.mem_cons_self u hz, ih (fun x hx => hg x (List.mem_cons_of_mem _ hx)) hl]
end
/-- Numbers as they stand, and back; with an error's number. -/
def dplain (l : List Int) (s : Bool) : Option (List Nat) := omap (eplain · s) l
def dmade (u : List Nat) (s : Bool) : Option (List Int) := omap (emade · s) u
def dplainE (l : List Int) (s : Bool) : List Nat × Int := match dplain l s with | none => ([], 1) | some u => (u, 0)
def dmadeE (u : List Nat) (s : Bool) : List Int × Int := match dmade u s with | none => ([], 2) | some l => (l, 0)
theorem dplain_lt {l : List Int} {s : Bool} {u : List Nat} (hl : ∀ x ∈ l, inInt x) (h : dplain l s = some u) : ∀ y ∈ u, y < 2 ^ 64 := by
  intro y hy
  obtain ⟨x, hx, hf⟩ := omap_mem h hy
  exact eplain_lt (hl x hx).1 (hl x hx).2 hf
theorem dplain_len {l : List Int} {s : Bool} {u : List Nat} (h : dplain l s = some u) : u.length = l.length := omap_len h
theorem dmade_len {u : List Nat} {s : Bool} {l : List Int} (h : dmade u s = some l) : l.length = u.length := omap_len h
theorem dmade_bd {u : List Nat} {s : Bool} {l : List Int} (hu : ∀ x ∈ u, x < 2 ^ 64) (h : dmade u s = some l) : ∀ x ∈ l, inInt x := by
  intro x hx
  obtain ⟨y, hy, hf⟩ := omap_mem h hx
  exact emade_bd (hu y hy) hf
theorem dmade_dplain {l : List Int} {s : Bool} {u : List Nat} (hl : ∀ x ∈ l, inInt x) (h : dplain l s = some u) : dmade u s = some l :=
  omap_back (fun x hx _ hy => emade_eplain (hl x hx).1 (hl x hx).2 hy) h
/-- A head. -/
def dheadN (k c m : Nat) : List UInt8 := be 2 (16384 * k + 512 * c + (m - 1))
def dhead (k c m : Int) : List UInt8 := if 0 ≤ k ∧ k ≤ 3 ∧ 0 ≤ c ∧ c ≤ 31 ∧ 1 ≤ m ∧ m ≤ 512 then dheadN k.toNat c.toNat m.toNat else []
theorem dhead_in {k c m : Nat} (hk : k ≤ 3) (hc : c ≤ 31) (h1 : 1 ≤ m) (hm : m ≤ 512) : dhead (k : Int) (c : Int) (m : Int) = dheadN k c m := by
  unfold dhead
  rw [if_pos (by omega)]
  simp
theorem dheadN_len (k c m : Nat) : (dheadN k c m).length = 2 := be_len _ _
/-- What a head's number says: the kind, the code, how many. -/
def dlook (l : List UInt8) : Int × Int × Int × List UInt8 × Int :=
  if l.length < 2 then (0, 0, 0, [], 2)
  else (((bval (l.take 2) / 16384 : Nat) : Int), ((bval (l.take 2) / 512 % 32 : Nat) : Int), ((bval (l.take 2) % 512 + 1 : Nat) : Int), l.drop 2, 0)
theorem dheadN_bval {k c m : Nat} (hk : k ≤ 3) (hc : c ≤ 31) (h1 : 1 ≤ m) (hm : m ≤ 512) : bval (dheadN k c m) = 16384 * k + 512 * c + (m - 1) := by
  unfold dheadN
  rw [bval_be, Nat.mod_eq_of_lt (by omega)]
theorem dlook_head {k c m : Nat} (hk : k ≤ 3) (hc : c ≤ 31) (h1 : 1 ≤ m) (hm : m ≤ 512) (b : List UInt8) : dlook (dheadN k c m ++ b) = ((k : Int), (c : Int), (m : Int), b, 0) := by
  have hl := dheadN_len k c m
  have ht : (dheadN k c m ++ b).take 2 = dheadN k c m := by rw [← hl]; simp
  have hd : (dheadN k c m ++ b).drop 2 = b := by rw [← hl]; simp
  unfold dlook
  rw [if_neg (by rw [List.length_append, hl]; omega), ht, hd, dheadN_bval hk hc h1 hm]
  have e1 : (16384 * k + 512 * c + (m - 1)) / 16384 = k := by omega
  have e2 : (16384 * k + 512 * c + (m - 1)) / 512 % 32 = c := by omega
  have e3 : (16384 * k + 512 * c + (m - 1)) % 512 + 1 = m := by omega
  rw [e1, e2, e3]
/-- The two bytes of a number, and what they say. -/
theorem bval_two {l : List UInt8} (h : 2 ≤ l.length) : bval (l.take 2) = 256 * l[0].toNat + l[1].toNat ∧ bval (l.take 2) < 65536 := by
  match l, h with
  | a :: b :: r, _ =>
    have h1 := a.toNat_lt
    have h2 := b.toNat_lt
    have e : bval ((a :: b :: r).take 2) = 256 * a.toNat + b.toNat := by
      show bval [a, b] = _
      simp [bval]
      omega
    rw [e]
    exact ⟨rfl, by omega⟩
/-- The closest width of numbers, and its code. -/
def dwide (u : List Nat) : Nat := (wclosest (wmost u : Int)).toNat
theorem dwide_int {u : List Nat} : wclosest (wmost u : Int) = (dwide u : Int) := by unfold dwide; have := (wclosest_bd (wmost u : Int)).1; omega
theorem foldl_top : ∀ (u : List Nat) (n : Nat), n ≤ u.foldl (fun n x => max n x) n ∧ ∀ x ∈ u, x ≤ u.foldl (fun n x => max n x) n
  | [], n => ⟨Nat.le_refl _, fun _ h => by cases h⟩
  | y :: u, n => by
    have h := foldl_top u (max n y)
    refine ⟨Nat.le_trans (Nat.le_max_left _ _) h.1, fun x hx => ?_⟩
    rcases List.mem_cons.1 hx with rfl | hx
    · exact Nat.le_trans (Nat.le_max_right _ _) h.1
    · exact h.2 x hx
theorem wtop_mem {u : List Nat} {x : Nat} (h : x ∈ u) : x ≤ wtop u := (foldl_top u 0).2 x h
theorem dwide_room {u : List Nat} (h : ∀ x ∈ u, x < 2 ^ 64) : 1 ≤ dwide u ∧ dwide u ≤ 64 ∧ (∀ x ∈ u, x < 2 ^ dwide u) := by
  have h1 := wroom ⟨wmost u, by have := wmost_64 h; omega⟩
  have h2 := wclosest_bd (wmost u : Int)
  have h3 := dwide_int (u := u)
  dsimp only at h1
  rw [h3] at h1 h2
  refine ⟨by omega, by omega, fun x hx => ?_⟩
  have h4 : x ≤ wtop u := by
    clear h1 h2 h3 h
    exact wtop_mem hx
  have h5 := (wbits_iff (wtop_lt h) (show dwide u ≤ 64 by omega)).1 (by rw [wtop_bits h]; omega)
  omega
def dcode (u : List Nat) : Nat := (wcode (dwide u : Int)).toNat
/-- The code of the closest width stands for it. -/
theorem wclose_code : ∀ n : Fin 65, 0 ≤ wcode (wclosest (n.val : Int)) ∧ wcode (wclosest (n.val : Int)) ≤ 31 ∧ wof (wcode (wclosest (n.val : Int))) = wclosest (n.val : Int) := by decide +kernel
theorem dcode_int {u : List Nat} (h : ∀ x ∈ u, x < 2 ^ 64) : wcode (dwide u : Int) = (dcode u : Int) ∧ dcode u ≤ 31 ∧ wof (dcode u : Int) = (dwide u : Int) := by
  have h1 := wclose_code ⟨wmost u, by have := wmost_64 h; omega⟩
  dsimp only at h1
  rw [dwide_int] at h1
  have h2 : wcode (dwide u : Int) = (dcode u : Int) := by unfold dcode; omega
  rw [h2] at h1
  exact ⟨h2, by omega, h1.2.2⟩
/-- What Put answers. -/
def dlay (u : List Nat) : List UInt8 := dheadN 1 (dcode u) u.length ++ bpack u (dwide u)
def dputE (l : List Int) (s : Bool) : List UInt8 × Int := match dplain l s with | none => ([], 1) | some u => if l.length < 1 ∨ 512 < l.length then ([], 1) else (dlay u, 0)
/-- What Take answers. -/
def dtakeE (l : List UInt8) (s : Bool) : List Int × List UInt8 × Int :=
  if (dlook l).2.2.2.2 ≠ 0 ∨ (dlook l).1 ≠ 1 then ([], [], 2)
  else match unpacksAny (dlook l).2.2.2.1 (dlook l).2.2.1 (wof (dlook l).2.1) with
    | (u, r, e) => if e ≠ 0 then ([], [], 2) else match dmade u s with | none => ([], [], 2) | some m => (m, r, 0)
theorem dtakeE_ok {l : List UInt8} {c m : Int} {r : List UInt8} {s : Bool} (h : dlook l = (1, c, m, r, 0)) {u : List Nat} {q : List UInt8} (hu : unpacksAny r m (wof c) = (u, q, 0)) {o : List Int} (hm : dmade u s = some o) : dtakeE l s = (o, q, 0) := by
  unfold dtakeE
  rw [h]
  dsimp only
  rw [if_neg (by decide), hu]
  dsimp only
  rw [if_neg (by decide), hm]
theorem dtake_lay {u : List Nat} {l : List Int} {s : Bool} (hu : ∀ x ∈ u, x < 2 ^ 64) (h1 : 1 ≤ u.length) (h2 : u.length ≤ 512) (hm : dmade u s = some l) (b : List UInt8) : dtakeE (dlay u ++ b) s = (l, b, 0) := by
  obtain ⟨hw1, hw2, hw3⟩ := dwide_room hu
  obtain ⟨_, hc2, hc3⟩ := dcode_int hu
  have hd : dlook (dlay u ++ b) = (1, (dcode u : Int), (u.length : Int), bpack u (dwide u) ++ b, 0) := by
    unfold dlay
    rw [List.append_assoc]
    exact dlook_head (k := 1) (by omega) hc2 h1 h2 _
  refine dtakeE_ok hd ?_ hm
  rw [hc3, unpacksAny_in _ _ _ (by omega) hw2]
  exact unpacks_back hw3 b
/-- P8.4. -/
theorem dtake_back {l : List Int} {s : Bool} {u : List Nat} (hl : ∀ x ∈ l, inInt x) (h1 : 1 ≤ l.length) (h2 : l.length ≤ 512) (h : dplain l s = some u) (b : List UInt8) : dtakeE (dlay u ++ b) s = (l, b, 0) :=
  dtake_lay (dplain_lt hl h) (by rw [dplain_len h]; exact h1) (by rw [dplain_len h]; exact h2) (dmade_dplain hl h) b
end Go.Proofs.YtdcgkjcefbceeaaDoor

/- Contracts of layer 8's reference: Head, Look, Plain, Made, Same. -/









namespace Go.Proofs.YtdcgkjcefbceeaaDoor

open Go.RowKit

theorem isU_iff {l : List Nat} {v : Value} {w : World} : IsU l v w ↔ IsV uv l v w := Iff.rfl
theorem own_made (w : World) (e : TypeId) : (w.alloc (.cells #[] e)).ownsRow w.heap.size e 1 (.slice (some ⟨w.heap.size, 0, none⟩) 0 0) 0 [] := World.ownsRow_made w #[] 0 (Nat.le_refl _) (by unfold maxLen; omega) (by simp)
/-- What Look answers: three numbers, bytes, an error. -/
def RetK (w : World) (p : Int × Int × Int × List UInt8 × Int) (e : Ending) (w' : World) : Prop :=
  ∃ v, e = .returned (.tuple #[.int .i64 p.1, .int .i64 p.2.1, .int .i64 p.2.2.1, v, .int .i64 p.2.2.2.2]) ∧ IsB p.2.2.2.1 v w' ∧ Below w.heap.size w w'
theorem dlook_short {l : List UInt8} (h : l.length < 2) : dlook l = (0, 0, 0, [], 2) := by unfold dlook; rw [if_pos h]
theorem dlook_long {l : List UInt8} {X : Nat} (h : 2 ≤ l.length) (hX : X = 256 * l[0].toNat + l[1].toNat) : dlook l = (((X / 16384 : Nat) : Int), ((X / 512 % 32 : Nat) : Int), ((X % 512 + 1 : Nat) : Int), l.drop 2, 0) := by
  unfold dlook
  rw [if_neg (by omega), (bval_two h).1, ← hX]
set_option maxHeartbeats 2000000 in
set_option maxRecDepth 100000 in
theorem rlook8_any (l : List UInt8) (v : Value) (w : World) (hv : IsB l v w) (hb : l.length ≤ 1000000) :
    Calls Tryd.prog 43 #[v] w (RetK w (dlook l)) := by
  obtain ⟨A, c, rfl, hA, hnc, hcm, hl⟩ := hv
  obtain ⟨n, hn⟩ : ∃ n, n = l.length := ⟨_, rfl⟩
  rw [← hn] at hA hnc hb ⊢
  have hci : (c : Int) ≤ 9223372036854775807 := by unfold maxLen at hcm; omega
  by_cases h2 : n < 2
  · have hE := Lib.hid (dlook_short (l := l) (by omega))
    have d1 : decide ((n : Int) < 2) = true := decide_eq_true (by omega)
    clear hn hl hcm hA hnc
    go_enter Tryd.func43, Tryd.ntmps43
    go_wp2
    refine bodyPost_ret (results_tmp5 rfl _ _ _) rfl ?_
    rw [hE.out]
    exact ⟨_, rfl, isB_nil _, Below.refl _ _⟩
  · have hl2 : 2 ≤ l.length := by omega
    have d1 : decide ((n : Int) < 2) = false := decide_eq_false (by omega)
    obtain ⟨ad, rfl, _, hcell0⟩ := hl.cell (k := 0) (by rw [List.length_map]; omega)
    obtain ⟨_, hAd, _, hcell1⟩ := hl.cell (k := 1) (by rw [List.length_map]; omega)
    injection hAd with hAd
    subst hAd
    obtain ⟨x, hx⟩ : ∃ x : Nat, x = l[0].toNat := ⟨_, rfl⟩
    obtain ⟨y, hy⟩ : ∃ y : Nat, y = l[1].toNat := ⟨_, rfl⟩
    have hx8 : x < 256 := by rw [hx]; exact UInt8.toNat_lt _
    have hy8 : y < 256 := by rw [hy]; exact UInt8.toNat_lt _
    have hc0 : w.cell? ad = some (.int .u8 (x : Int)) := by
      have e : ad.add 0 = ad := by simp [Addr.add]
      rw [e] at hcell0
      rw [hcell0, List.getElem_map, hx]; rfl
    have hc1 : w.cell? ⟨ad.block, ad.off + 1, none⟩ = some (.int .u8 (y : Int)) := by
      have e : ad.add 1 = ⟨ad.block, ad.off + 1, none⟩ := by simp [Addr.add]
      rw [e] at hcell1
      rw [hcell1, List.getElem_map, hy]; rfl
    obtain ⟨X, hX⟩ : ∃ X, X = 256 * x + y := ⟨_, rfl⟩
    have hXb : X < 65536 := by omega
    have hE := Lib.hid (dlook_long (l := l) (X := X) hl2 (by rw [hX, hx, hy]))
    have hn0 : (0 : Int) < (n : Int) := by omega
    have hn1 : (1 : Int) < (n : Int) := by omega
    have HX := Lib.hid (show (256 * (x : Int) + (y : Int)) / 16384 = ((X / 16384 : Nat) : Int) ∧ (256 * (x : Int) + (y : Int)) / 512 % 32 = ((X / 512 % 32 : Nat) : Int) ∧ (256 * (x : Int) + (y : Int)) % 512 + 1 = ((X % 512 + 1 : Nat) : Int) from ⟨by omega, by omega, by omega⟩)
    have HN := Lib.hid hn
    obtain ⟨v6, hv6, A6, c6, e6, hA6, hc6, hm6, hl6⟩ := from_named (P := Tryd.prog) (w := w) elemB (k := 2) (by omega) hnc hcm hn.symm hl hA
    have hpl : (l.drop 2).length = n - 2 := by rw [List.length_drop]; omega
    have hpm : ((l.drop 2).map bv).length = n - 2 := by rw [List.length_map]; exact hpl
    have HPM := Lib.hid hpm
    rw [hpl] at e6 hA6
    obtain ⟨N, hN⟩ : ∃ N, N = n - 2 := ⟨_, rfl⟩
    rw [← hN] at e6 hA6 HPM
    have hNb : N ≤ 1000000 := by omega
    subst e6
    clear hN
    have hsl : ∀ W, (Instr.sliceAt 25 (.slice (some ad) n c) (some (.int .i64 2)) none none).run Tryd.prog W = .ok (.slice A6 N c6) W := hv6
    clear hn hx hy hX hcell0 hcell1 hl hv6 hpl hpm hc6 hm6
    go_enter Tryd.func43, Tryd.ntmps43
    go_wp2
    go_quiet (fail)
    have hown0 : ((w.drewN nq).alloc (.cells #[] 5)).ownsRow w.heap.size 5 1 (.slice (some ⟨w.heap.size, 0, none⟩) 0 0) 0 [] := own_made (w.drewN nq) 5
    have hb0 : Below w.heap.size w ((w.drewN nq).alloc (.cells #[] 5)) := (below_drewN (Below.refl _ _) nq).alloc (Nat.le_refl _) _
    have hz0 := hb0.size
    have hl0 := hl6.below hb0
    go_wp2_with (at_builtin; refine wpList_join elemB rfl _ _ rfl w.heap.size _ _ _ _ _ _ ((l.drop 2).map bv) w rfl rfl hA6 HPM.out hl0 (bv_one _) hown0 hb0 hz0 (by omega) (by omega) ?_)
    intro v7 w7 hown7 hb7 _ _
    have HI7 := Lib.hid (show IsB (l.drop 2) v7 w7 from isB_own (n := N) (by simpa using hown7))
    have HB7 := Lib.hid hb7
    clear hown7 hb7 hown0 hb0 hz0 hl0
    go_wp2
    refine bodyPost_ret (results_tmp5 rfl _ _ _) rfl ?_
    rw [hE.out]
    refine ⟨_, ?_, HI7.out, HB7.out⟩
    rw [← HX.out.1, ← HX.out.2.1, ← HX.out.2.2]
    rfl

/-- A row of values and an error that a call answers. -/
def RetV {α : Type} (f : α → Value) (w : World) (p : List α × Int) (e : Ending) (w' : World) : Prop := ∃ u, e = .returned (.tuple #[u, .int .i64 p.2]) ∧ IsV f p.1 u w' ∧ Below w.heap.size w w'
theorem RetV.nil {α : Type} {f : α → Value} {w w' : World} (n : Int) (hb : Below w.heap.size w w') : RetV f w ([], n) (.returned (.tuple #[.slice none 0 0, .int .i64 n])) w' := ⟨_, rfl, isV_nil _ _, hb⟩
theorem omap_take {α β : Type} {f : α → Option β} {l : List α} {k : Nat} {acc : List β} {y : β} (hk : k < l.length) (h : omap f (l.take k) = some acc) (hy : f l[k] = some y) : omap f (l.take (k + 1)) = some (acc ++ [y]) := by
  rw [List.take_succ_eq_append_getElem hk, omap_snoc, h, hy]
def OmapRel {α β : Type} (f : α → Option β) (enc : β → Value) (t : TypeId) (l : List α) (w : World) (v i : Value) (wr : World) : Prop :=
  ∃ (k : Nat) (acc : List β), k ≤ l.length ∧ i = .int .i64 (k : Int) ∧ omap f (l.take k) = some acc ∧ wr.ownsRow w.heap.size t 1 v acc.length (acc.map enc) ∧ Below w.heap.size w wr
set_option maxHeartbeats 2000000 in
set_option maxRecDepth 100000 in
theorem rplain8_any (l : List Int) (v : Value) (s : Bool) (w : World) (hv : IsV iv l v w) (hl : ∀ x ∈ l, inInt x) (hb : l.length ≤ 1000000) :
    Calls Tryd.prog 28 #[v, .bool s] w (RetV uv w (dplainE l s)) := by
  obtain ⟨A, c, rfl, hA, hnc, hcm, hlw⟩ := hv
  obtain ⟨n, hn⟩ : ∃ n, n = l.length := ⟨_, rfl⟩
  rw [← hn] at hA hnc hb ⊢
  have hst : OmapRel (eplain · s) uv 62 l w (.slice (some ⟨w.heap.size, 0, none⟩) 0 0) (.int .i64 0) (w.alloc (.cells #[] 62)) := ⟨0, [], by omega, rfl, rfl, own_made w _, (Below.refl _ _).alloc (Nat.le_refl _) _⟩
  have HN := Lib.hid hn
  have HL := Lib.hid hlw
  have HI := Lib.hid hl
  clear hn hlw hl hcm hA
  go_enter Tryd.func28, Tryd.ntmps28
  go_wp2
  go_loopw [6, 7] (OmapRel (eplain · s) uv 62 l w) (fun _ i _ => n - (intOf i).toNat)
  case atStart => exact hst
  case round =>
    obtain ⟨k, acc, hk, rfl, hacc, hown, hbw⟩ := hrel
    have hz := hbw.size
    have hal : acc.length = k := by rw [omap_len hacc, List.length_take]; omega
    have HACC := Lib.hid hacc
    have HAL := Lib.hid hal
    have hk' : k ≤ n := by have := HN.out; omega
    clear hst hacc
    rw [hal] at hown
    clear hal
    by_cases hlt : k < n
    · have hkl : k < l.length := by have := HN.out; omega
      have hlti : (k : Int) < (n : Int) := by omega
      obtain ⟨ad, rfl, _, hcell⟩ := (HL.out.below hbw).cell (k := k) (by rw [List.length_map]; exact hkl)
      obtain ⟨x, hx⟩ : ∃ x, x = l[k] := ⟨_, rfl⟩
      have hcx : wr.cell? (ad.add k) = some (.int .i64 x) := by rw [hcell, List.getElem_map, hx]; rfl
      have hxb : inInt x := by rw [hx]; exact HI.out _ (List.getElem_mem hkl)
      have HP := Lib.hid (rplain7_any x s wr hxb.1 hxb.2)
      obtain ⟨u, hu⟩ : ∃ u, u = (eplain x s).getD 0 := ⟨_, rfl⟩
      obtain ⟨ok, hok⟩ : ∃ ok, ok = (eplain x s).isSome := ⟨_, rfl⟩
      rw [← hu, ← hok] at HP
      have HX := Lib.hid hx
      have HU := Lib.hid hu
      have HOK := Lib.hid hok
      clear hx hu hok hcell hxb
      cases ok with
      | false =>
        have hE : Hid (dplainE l s = ([], 1)) := Lib.hid (by
          have h0 : eplain x s = none := by simpa using HOK.out.symm
          have h1 : dplain l s = none := omap_none (x := x) (by rw [HX.out]; exact List.getElem_mem hkl) h0
          unfold dplainE; rw [h1])
        go_wp2_with (go_at_call 59; refine HP.out.mono ?_; rintro e w' ⟨rfl, rfl⟩)
        go_ret2
        rw [hE.out]
        exact RetV.nil _ hbw
      | true =>
        have hnext : Hid (omap (eplain · s) (l.take (k + 1)) = some (acc ++ [u])) := Lib.hid (omap_take hkl HACC.out (by
          rw [← HX.out]
          have h0 := HOK.out
          have h1 := HU.out
          cases he : eplain x s with
          | none => rw [he] at h0; simp at h0
          | some z => rw [he] at h1; simp at h1; rw [h1]))
        go_wp2_with (first | (go_at_call 59; refine HP.out.mono ?_; rintro e w' ⟨rfl, rfl⟩) | (at_builtin; refine wpList_push elemU rfl _ _ rfl w.heap.size _ _ _ (uv u) wr w rfl rfl rfl rfl hown hbw hz (by omega) (by omega) ?_))
        intro v5 w5 hown5 hb5 _ _
        have hown6 : w5.ownsRow w.heap.size 62 1 v5 (acc ++ [u]).length ((acc ++ [u]).map uv) := by
          rw [List.length_append, List.length_singleton, List.map_append, List.map_singleton, HAL.out]
          exact hown5
        clear hown5 hown
        go_wp2
        go_roundw
        case rel => exact ⟨k + 1, _, by have := HN.out; omega, by go_num, hnext.out, hown6, hb5⟩
        case measure => simp [intOf]; omega
    · obtain rfl : k = n := by omega
      have hlti : ¬ (k : Int) < (k : Int) := by omega
      have hE : Hid (dplainE l s = (acc, 0)) := Lib.hid (by
        have h1 := HACC.out
        rw [List.take_of_length_le (by have := HN.out; omega)] at h1
        unfold dplainE dplain; rw [h1])
      go_wp2
      go_ret2
      rw [hE.out]
      exact ⟨_, rfl, isV_own hown, hbw⟩
def SameRelI (l m : List Int) (w : World) (i : Value) (wr : World) : Prop := ∃ k : Nat, i = .int .i64 (k : Int) ∧ k ≤ l.length ∧ l.take k = m.take k ∧ Below w.heap.size w wr
set_option maxHeartbeats 1000000 in
theorem same8_any (A B : Option Addr) (n c n' c' : Nat) (l m : List Int) (w : World) (hn : l.length = n) (hn' : m.length = n') (hb : n ≤ 1000000) (hb' : n' ≤ 1000000) (hl : Lies w A (l.map iv)) (hm : Lies w B (m.map iv)) :
    Calls Tryd.prog 11 #[.slice A n c, .slice B n' c'] w fun e w' => e = .returned (.bool (l == m)) ∧ Below w.heap.size w w' := by
  have HN := Lib.hid hn
  have HN' := Lib.hid hn'
  clear hn hn'
  by_cases hnn : n = n'
  · subst hnn
    have d1 : ((n : Int) != (n : Int)) = false := by simp
    go_enter Tryd.func11, Tryd.ntmps11
    go_wp2
    go_loopw [5] (SameRelI l m w) (fun i _ => n - (intOf i).toNat)
    case atStart => exact ⟨0, rfl, by omega, by simp, Below.refl _ _⟩
    case round =>
      obtain ⟨k, rfl, hk, he, hbr⟩ := hrel
      have HE := Lib.hid he
      clear he
      have hk' : k ≤ n := by have := HN.out; omega
      by_cases hlt : k < n
      · have hkl : k < l.length := by have := HN.out; omega
        have hkm : k < m.length := by have := HN'.out; omega
        obtain ⟨ad, rfl, _, hcell⟩ := (hl.below hbr).cell (k := k) (by simpa using hkl)
        obtain ⟨ad', rfl, _, hcell'⟩ := (hm.below hbr).cell (k := k) (by simpa using hkm)
        obtain ⟨x, hx⟩ : ∃ x : Int, x = l[k] := ⟨_, rfl⟩
        obtain ⟨y, hy⟩ : ∃ y : Int, y = m[k] := ⟨_, rfl⟩
        have hcx : wr.cell? (ad.add k) = some (.int .i64 x) := by rw [hcell, List.getElem_map, hx]; rfl
        have hcy : wr.cell? (ad'.add k) = some (.int .i64 y) := by rw [hcell', List.getElem_map, hy]; rfl
        have HX := Lib.hid hx
        have HY := Lib.hid hy
        clear hx hy hcell hcell'
        have hlti : (k : Int) < (n : Int) := by omega
        by_cases hxy : x = y
        · subst hxy
          have d2 : (x != x) = false := by simp
          go_wp2
          go_quiet (fail)
          go_wp2
          go_roundw
          case rel =>
            refine ⟨k + 1, by go_num, by omega, ?_, below_drewN hbr _⟩
            rw [List.take_succ_eq_append_getElem hkl, List.take_succ_eq_append_getElem hkm, HE.out, ← HX.out, ← HY.out]
          case measure => simp [intOf]; omega
        · have d2 : (x != y) = true := by simpa using hxy
          have hne : (l == m) = false := by
            rw [beq_eq_false_iff_ne]
            intro h
            subst h
            exact hxy (by rw [HX.out, HY.out])
          go_wp2
          go_quiet (fail)
          go_wp2
          go_ret
          exact ⟨ret_bool hne.symm, below_drewN hbr _⟩
      · obtain rfl : k = n := by omega
        have heq : (l == m) = true := by
          rw [beq_iff_eq]
          have h1 := HE.out
          rw [List.take_of_length_le (by have := HN.out; omega), List.take_of_length_le (by have := HN'.out; omega)] at h1
          exact h1
        have HQ := Lib.hid heq
        clear heq
        go_wp2
        go_ret
        exact ⟨ret_bool HQ.out.symm, hbr⟩
  · have d1 : ((n : Int) != (n' : Int)) = true := by simpa using (fun h => hnn (by omega))
    have hne : (l == m) = false := by
      rw [beq_eq_false_iff_ne]
      intro h
      subst h
      exact hnn (by rw [← HN.out, ← HN'.out])
    have HQ := Lib.hid hne
    clear hne
    go_enter Tryd.func11, Tryd.ntmps11
    go_wp2
    go_ret
    exact ⟨ret_bool HQ.out.symm, Below.refl _ _⟩
theorem same8_is {l m : List Int} {u v : Value} {w : World} (hl : IsV iv l u w) (hm : IsV iv m v w) (h1 : l.length ≤ 1000000) (h2 : m.length ≤ 1000000) :
    Calls Tryd.prog 11 #[u, v] w fun e w' => e = .returned (.bool (l == m)) ∧ Below w.heap.size w w' := by
  obtain ⟨A, c, rfl, _, _, _, h3⟩ := hl
  obtain ⟨B, c', rfl, _, _, _, h4⟩ := hm
  exact same8_any A B _ c _ c' l m w rfl rfl h1 h2 h3 h4
theorem dhead_no {k c m : Int} (h : ¬ (0 ≤ k ∧ k ≤ 3 ∧ 0 ≤ c ∧ c ≤ 31 ∧ 1 ≤ m ∧ m ≤ 512)) : dhead k c m = [] := by unfold dhead; rw [if_neg h]
theorem dheadN_two {k c m X h y : Nat} (hX : X = 16384 * k + 512 * c + (m - 1)) (hh : h = X / 256) (hy : y = X % 256) (hb : X < 65536) : (dheadN k c m).map bv = [.int .u8 (h : Int), .int .u8 (y : Int)] := by
  have e : dheadN k c m = [UInt8.ofNat h, UInt8.ofNat y] := by
    unfold dheadN
    rw [← hX]
    symm
    refine eq_be rfl ?_
    have h1 : (UInt8.ofNat h).toNat = h := by rw [UInt8.toNat_ofNat']; omega
    have h2 : (UInt8.ofNat y).toNat = y := by rw [UInt8.toNat_ofNat']; omega
    simp only [bval, List.length_cons, List.length_nil, h1, h2]
    omega
  rw [e]
  have h1 : (UInt8.ofNat h).toNat = h := by rw [UInt8.toNat_ofNat']; omega
  have h2 : (UInt8.ofNat y).toNat = y := by rw [UInt8.toNat_ofNat']; omega
  simp only [List.map_cons, List.map_nil, bv, h1, h2]
/-- Bytes in a row of the call's own. -/
def RetH (w : World) (l : List UInt8) (e : Ending) (w' : World) : Prop := ∃ v, e = .returned v ∧ w'.ownsRow w.heap.size 5 1 v l.length (l.map bv) ∧ Below w.heap.size w w'
theorem own_new (w : World) (e : TypeId) (xs : List Value) (n : Nat) (hn : xs.length = n) (hb : n ≤ 1000000) : (w.alloc (.cells xs.toArray e)).ownsRow w.heap.size e 1 (.slice (some ⟨w.heap.size, 0, none⟩) n n) n xs :=
  ⟨by simpa using hn, .inr ⟨w.heap.size, n, xs.toArray, rfl, Nat.le_refl _, heap_alloc_new w _, Nat.le_refl _, by unfold maxLen; omega, by simp [hn], by subst hn; simp⟩⟩
set_option maxHeartbeats 2000000 in
set_option maxRecDepth 100000 in
theorem rhead8_any (k c m : Int) (w : World) : Calls Tryd.prog 36 #[.int .i64 k, .int .i64 c, .int .i64 m] w (RetH w (dhead k c m)) := by
  by_cases h0 : k < 0
  · have d0 : decide (k < 0) = true := decide_eq_true h0
    have hE := Lib.hid (dhead_no (k := k) (c := c) (m := m) (by omega))
    go_enter Tryd.func36, Tryd.ntmps36
    go_wp2
    go_ret
    rw [hE.out]
    exact ⟨_, rfl, World.ownsRow_nil _ _ _ _, Below.refl _ _⟩
  · have d0 : decide (k < 0) = false := decide_eq_false h0
    by_cases h1 : 3 < k
    · have d1 : decide ((3 : Int) < k) = true := decide_eq_true h1
      have hE := Lib.hid (dhead_no (k := k) (c := c) (m := m) (by omega))
      go_enter Tryd.func36, Tryd.ntmps36
      go_wp2
      go_ret
      rw [hE.out]
      exact ⟨_, rfl, World.ownsRow_nil _ _ _ _, Below.refl _ _⟩
    · have d1 : decide ((3 : Int) < k) = false := decide_eq_false h1
      by_cases h2 : c < 0
      · have d2 : decide (c < 0) = true := decide_eq_true h2
        have hE := Lib.hid (dhead_no (k := k) (c := c) (m := m) (by omega))
        go_enter Tryd.func36, Tryd.ntmps36
        go_wp2
        go_ret
        rw [hE.out]
        exact ⟨_, rfl, World.ownsRow_nil _ _ _ _, Below.refl _ _⟩
      · have d2 : decide (c < 0) = false := decide_eq_false h2
        by_cases h3 : 31 < c
        · have d3 : decide ((31 : Int) < c) = true := decide_eq_true h3
          have hE := Lib.hid (dhead_no (k := k) (c := c) (m := m) (by omega))
          go_enter Tryd.func36, Tryd.ntmps36
          go_wp2
          go_ret
          rw [hE.out]
          exact ⟨_, rfl, World.ownsRow_nil _ _ _ _, Below.refl _ _⟩
        · have d3 : decide ((31 : Int) < c) = false := decide_eq_false h3
          by_cases h4 : m < 1
          · have d4 : decide (m < 1) = true := decide_eq_true h4
            have hE := Lib.hid (dhead_no (k := k) (c := c) (m := m) (by omega))
            go_enter Tryd.func36, Tryd.ntmps36
            go_wp2
            go_ret
            rw [hE.out]
            exact ⟨_, rfl, World.ownsRow_nil _ _ _ _, Below.refl _ _⟩
          · have d4 : decide (m < 1) = false := decide_eq_false h4
            by_cases h5 : 512 < m
            · have d5 : decide ((512 : Int) < m) = true := decide_eq_true h5
              have hE := Lib.hid (dhead_no (k := k) (c := c) (m := m) (by omega))
              go_enter Tryd.func36, Tryd.ntmps36
              go_wp2
              go_ret
              rw [hE.out]
              exact ⟨_, rfl, World.ownsRow_nil _ _ _ _, Below.refl _ _⟩
            · have d5 : decide ((512 : Int) < m) = false := decide_eq_false h5
              obtain ⟨K, rfl⟩ := Int.eq_ofNat_of_zero_le (show 0 ≤ k by omega)
              obtain ⟨C, rfl⟩ := Int.eq_ofNat_of_zero_le (show 0 ≤ c by omega)
              obtain ⟨M, rfl⟩ := Int.eq_ofNat_of_zero_le (show 0 ≤ m by omega)
              obtain ⟨X, hX⟩ : ∃ X, X = 16384 * K + 512 * C + (M - 1) := ⟨_, rfl⟩
              obtain ⟨h, hh⟩ : ∃ h, h = X / 256 := ⟨_, rfl⟩
              obtain ⟨y, hy⟩ : ∃ y, y = X % 256 := ⟨_, rfl⟩
              have hXb : X < 65536 := by omega
              have hXi : 16384 * (K : Int) + 512 * (C : Int) + (M : Int) - 1 = (X : Int) := by omega
              have hhi : (X : Int) / 256 = (h : Int) := by omega
              have hyi : (X : Int) % 256 = (y : Int) := by omega
              have hhw : IntKind.u8.wrap (h : Int) = (h : Int) := by rw [IntKind.wrap_u8]; omega
              have hyw : IntKind.u8.wrap (y : Int) = (y : Int) := by rw [IntKind.wrap_u8]; omega
              have hE := Lib.hid (dhead_in (k := K) (c := C) (m := M) (by omega) (by omega) (by omega) (by omega))
              have hT := Lib.hid (dheadN_two hX hh hy hXb)
              clear hX hh hy
              go_enter Tryd.func36, Tryd.ntmps36
              go_wp2
              go_ret
              rw [hE.out]
              refine ⟨_, rfl, ?_, (Below.refl _ _).alloc (Nat.le_refl _) _⟩
              have h9 := own_new w 5 ((dheadN K C M).map bv) 2 (by rw [List.length_map]; exact dheadN_len _ _ _) (by omega)
              rw [hT.out] at h9
              rw [hT.out, dheadN_len]
              exact h9
end Go.Proofs.YtdcgkjcefbceeaaDoor

/- Contracts of layer 8's reference: Put, Take. -/









namespace Go.Proofs.YtdcgkjcefbceeaaDoor

open Go.RowKit

theorem rmost_is {l : List Nat} {v : Value} {w : World} (h : IsV uv l v w) (hb : l.length ≤ 1000000) (h64 : ∀ x ∈ l, x < 2 ^ 64) : Calls Tryd.prog 34 #[v] w fun e w' => e = .returned (.int .i64 (wmost l : Int)) ∧ w = w' := by
  obtain ⟨A, c, rfl, h2, h3, h4, h5⟩ := h
  exact rmost_any A _ c l w h2 rfl h3 hb h5 h64
theorem dputE_no {l : List Int} {s : Bool} (h : dplain l s = none) : dputE l s = ([], 1) := by unfold dputE; rw [h]
theorem dputE_len {l : List Int} {s : Bool} (h : l.length < 1 ∨ 512 < l.length) : dputE l s = ([], 1) := by
  unfold dputE
  cases dplain l s with
  | none => rfl
  | some u => dsimp only; rw [if_pos h]
theorem dputE_ok {l : List Int} {s : Bool} {u : List Nat} (h : dplain l s = some u) (h1 : 1 ≤ l.length) (h2 : l.length ≤ 512) : dputE l s = (dlay u, 0) := by
  unfold dputE
  rw [h]
  dsimp only
  rw [if_neg (by omega)]
theorem dpacks {u : List Nat} (h : ∀ x ∈ u, x < 2 ^ 64) : packsAny u (dwide u : Int) = (bpack u (dwide u), 0) := by
  obtain ⟨_, h2, h3⟩ := dwide_room h
  rw [packsAny_in _ _ h2, packs_ok h3]
theorem bsize_small {n W : Nat} (hn : n ≤ 512) (hW : W ≤ 64) : bsize n W ≤ 4096 := by
  unfold bsize
  have : n * W ≤ 512 * 64 := Nat.mul_le_mul hn hW
  omega
theorem dtakeE_no {l : List UInt8} {s : Bool} (h : (dlook l).2.2.2.2 ≠ 0 ∨ (dlook l).1 ≠ 1) : dtakeE l s = ([], [], 2) := by unfold dtakeE; rw [if_pos h]
theorem dtakeE_cut {l : List UInt8} {c m : Int} {r : List UInt8} {s : Bool} (h : dlook l = (1, c, m, r, 0)) {u : List Nat} {q : List UInt8} {x : Int} (hu : unpacksAny r m (wof c) = (u, q, x)) (hx : x ≠ 0) : dtakeE l s = ([], [], 2) := by
  unfold dtakeE
  rw [h]
  dsimp only
  rw [if_neg (by decide), hu]
  dsimp only
  rw [if_pos hx]
theorem dtakeE_bad {l : List UInt8} {c m : Int} {r : List UInt8} {s : Bool} (h : dlook l = (1, c, m, r, 0)) {u : List Nat} {q : List UInt8} (hu : unpacksAny r m (wof c) = (u, q, 0)) (hm : dmade u s = none) : dtakeE l s = ([], [], 2) := by
  unfold dtakeE
  rw [h]
  dsimp only
  rw [if_neg (by decide), hu]
  dsimp only
  rw [if_neg (by decide), hm]
/-- Numbers, bytes and an error that a call answers. -/
def RetIB (w : World) (p : List Int × List UInt8 × Int) (e : Ending) (w' : World) : Prop := ∃ u v, e = .returned (.tuple #[u, v, .int .i64 p.2.2]) ∧ IsV iv p.1 u w' ∧ IsB p.2.1 v w' ∧ Below w.heap.size w w'
theorem RetIB.nil {w w' : World} (n : Int) (hb : Below w.heap.size w w') : RetIB w ([], [], n) (.returned (.tuple #[.slice none 0 0, .slice none 0 0, .int .i64 n])) w' := ⟨_, _, rfl, isV_nil _ _, isB_nil _, hb⟩
/-- The same, the bytes in a row of the call's own. -/
def RetIO (w : World) (p : List Int × List UInt8 × Int) (e : Ending) (w' : World) : Prop := ∃ u v, e = .returned (.tuple #[u, v, .int .i64 p.2.2]) ∧ IsV iv p.1 u w' ∧ OwnB w p.2.1 v w' ∧ Below w.heap.size w w'
theorem RetIO.nil {w w' : World} (n : Int) (hb : Below w.heap.size w w') : RetIO w ([], [], n) (.returned (.tuple #[.slice none 0 0, .slice none 0 0, .int .i64 n])) w' := ⟨_, _, rfl, isV_nil _ _, OwnB.nil _ _, hb⟩
theorem RetIO.ib {w w' : World} {p : List Int × List UInt8 × Int} {e : Ending} (h : RetIO w p e w') : RetIB w p e w' := by
  obtain ⟨u, v, h1, h2, h3, h4⟩ := h
  exact ⟨u, v, h1, h2, h3.isB, h4⟩
theorem dlook_bd (l : List UInt8) : 0 ≤ (dlook l).1 ∧ (dlook l).1 ≤ 65536 ∧ 0 ≤ (dlook l).2.1 ∧ (dlook l).2.1 ≤ 31 ∧ 0 ≤ (dlook l).2.2.1 ∧ (dlook l).2.2.1 ≤ 512 ∧ (dlook l).2.2.2.1.length ≤ l.length := by
  unfold dlook
  split
  · simp
  · rename_i h
    have h1 := (bval_two (l := l) (by omega)).2
    dsimp only
    rw [List.length_drop]
    omega
theorem unpacks_lt {l : List UInt8} {M W : Nat} (hW : W ≤ 64) : ∀ x ∈ (unpacks l M W).1, x < 2 ^ 64 := by
  intro x hx
  unfold unpacks at hx
  split at hx
  · simp at hx
  · split at hx
    · exact Nat.lt_of_lt_of_le (bnums_lt x hx) (Nat.pow_le_pow_right (by omega) hW)
    · simp at hx
theorem unpacks_many {l : List UInt8} {M W : Nat} : (unpacks l M W).1.length ≤ M := by
  unfold unpacks
  split
  · simp
  · split
    · rw [bnums_len]; exact Nat.le_refl _
    · simp
theorem unpacksAny_lt {l : List UInt8} {M W : Int} : (∀ x ∈ (unpacksAny l M W).1, x < 2 ^ 64) ∧ (unpacksAny l M W).1.length ≤ 4096 := by
  unfold unpacksAny
  split
  · exact ⟨unpacks_lt (by omega), Nat.le_trans unpacks_many (by omega)⟩
  · simp
end Go.Proofs.YtdcgkjcefbceeaaDoor

/- The table of widths out of what a seat's rows list. (For seats whose rows list widths.table alone.) -/













namespace Go.Proofs.YtdcgkjcefbceeaaDoor

open Go.RowKit Go.ChangeShapes Go.WideShapes Go.ChangeAt

theorem gTab : Tryd.prog.globalNamed "pilaster/widths.table" = some 0 := by kernel_rfl
theorem tTab : (Tryd.prog.globals[0]?).map (·.type) = some 93 := by kernel_rfl
theorem door_met (os : Os) (args : Array Value) : laidMetH Tryd.prog [("pilaster/widths.table", Rows.laid_pilaster_widths_table)] ((World.doorLaid Tryd.prog 400 os).forCall (fun _ _ => 0) ⟨#[], args, []⟩).memory :=
  laidMetH_of_parts3 (fuel := 8) (laidMet_of_run' 8 (by kernel_rfl) (by kernel_rfl)) (by kernel_rfl) (by kernel_rfl)
theorem tab_of {W : World} (h : laidMetH Tryd.prog [("pilaster/widths.table", Rows.laid_pilaster_widths_table)] W) : WTab W := by
  rw [MakeChecks.laidMetH_plain _ _ _ (by kernel_rfl)] at h
  exact row_of_laid (zs := wtab) gTab tTab Tryd.underlying93 Tryd.underlying3 (by kernel_rfl) (by kernel_rfl) (by omega) h
end Go.Proofs.YtdcgkjcefbceeaaDoor

/- x & (2^w - 1) of a number with a sign. -/



namespace Go.Proofs.YtdcgkjcefbceeaaDoor

theorem i64_mask (n : Int) (w : Nat) (hw : w ≤ 62) : bits .and .i64 n (((2 ^ w - 1 : Nat) : Nat) : Int) = n % ((2 ^ w : Nat) : Int) := by
  have hW : 2 ^ w ≤ 2 ^ 62 := Nat.pow_le_pow_right (by omega) hw
  have hp : 0 < 2 ^ w := Nat.two_pow_pos w
  have h31 : (BitVec.ofInt 64 ((2 ^ w - 1 : Nat) : Int)).toNat = 2 ^ w - 1 := by
    rw [BitVec.ofInt_natCast, BitVec.toNat_ofNat]
    exact Nat.mod_eq_of_lt (by omega)
  have key : (BitVec.ofInt 64 n &&& BitVec.ofInt 64 ((2 ^ w - 1 : Nat) : Int)).toNat = (n % ((2 ^ 64 : Nat) : Int)).toNat % 2 ^ w := by
    rw [BitVec.toNat_and, BitVec.toNat_ofInt, h31, Nat.and_two_pow_sub_one_eq_mod]
  have hdvd : ((2 ^ w : Nat) : Int) ∣ ((2 ^ 64 : Nat) : Int) := Int.natCast_dvd_natCast.2 (Nat.pow_dvd_pow 2 (by omega))
  have e1 : (((n % ((2 ^ 64 : Nat) : Int)).toNat % 2 ^ w : Nat) : Int) = n % ((2 ^ w : Nat) : Int) := by
    rw [Int.natCast_emod, Int.toNat_of_nonneg (Int.emod_nonneg _ (by decide)), Int.emod_emod_of_dvd _ hdvd]
  show IntKind.i64.wrap ((BitVec.ofInt 64 n &&& BitVec.ofInt 64 ((2 ^ w - 1 : Nat) : Int)).toNat : Nat) = _
  rw [key, e1, IntKind.wrap_i64]
  have h1 := Int.emod_nonneg n (show ((2 ^ w : Nat) : Int) ≠ 0 by omega)
  have h2 := Int.emod_lt_of_pos n (show (0 : Int) < ((2 ^ w : Nat) : Int) by omega)
  omega
end Go.Proofs.YtdcgkjcefbceeaaDoor

/- Operations on numbers in a region that draws: what each yields; slices of one number. Over any program. -/





namespace Go.Proofs.YtdcgkjcefbceeaaDoor

open Go.RowKit

def Fact.vals {α : Type} (f : α → Value) (l : List α) : Fact := ⟨IsV f l, fun _ _ _ h hb => h.below hb⟩
section

variable {P : Program} {o : Oper} {ρ : Operand → Value} {w : World} {R : Value → World → Prop}
theorem gives_shl64 {t t' : TypeId} {x y : Operand} {a r : Int} {k : Nat} (ho : o.op = .binOp .shl t x y t') (hx : ρ x = .int .u64 a) (hy : ρ y = .int .i64 (k : Int)) (hk : k ≤ 64) (h : IntKind.u64.wrap (a * 2 ^ k) = r) (hR : R (.int .u64 r) w) : Gives P o ρ w R := by
  refine gives_of (v := .int .u64 r) (w' := w) ?_ hR
  simp [execOp, ho, hx, hy, go_sem, h]
theorem gives_shlI {t t' : TypeId} {x y : Operand} {a r : Int} {k : Nat} (ho : o.op = .binOp .shl t x y t') (hx : ρ x = .int .i64 a) (hy : ρ y = .int .i64 (k : Int)) (hk : k ≤ 64) (h : IntKind.i64.wrap (a * 2 ^ k) = r) (hR : R (.int .i64 r) w) : Gives P o ρ w R := by
  refine gives_of (v := .int .i64 r) (w' := w) ?_ hR
  simp [execOp, ho, hx, hy, go_sem, h]
theorem gives_andI {t t' : TypeId} {x y : Operand} {a b r : Int} (ho : o.op = .binOp .and t x y t') (hx : ρ x = .int .i64 a) (hy : ρ y = .int .i64 b) (h : bits .and .i64 a b = r) (hR : R (.int .i64 r) w) : Gives P o ρ w R := by
  refine gives_of (v := .int .i64 r) (w' := w) ?_ hR
  simp [execOp, ho, hx, hy, go_sem, h]
theorem gives_sub64 {t t' : TypeId} {x y : Operand} {a b r : Int} (ho : o.op = .binOp .sub t x y t') (hx : ρ x = .int .u64 a) (hy : ρ y = .int .u64 b) (h : IntKind.u64.wrap (a - b) = r) (hR : R (.int .u64 r) w) : Gives P o ρ w R := by
  refine gives_of (v := .int .u64 r) (w' := w) ?_ hR
  simp [execOp, ho, hx, hy, go_sem, h]
theorem gives_add64 {t t' : TypeId} {x y : Operand} {a b r : Int} (ho : o.op = .binOp .add t x y t') (hx : ρ x = .int .u64 a) (hy : ρ y = .int .u64 b) (h : IntKind.u64.wrap (a + b) = r) (hR : R (.int .u64 r) w) : Gives P o ρ w R := by
  refine gives_of (v := .int .u64 r) (w' := w) ?_ hR
  simp [execOp, ho, hx, hy, go_sem, h]
theorem gives_and64 {t t' : TypeId} {x y : Operand} {a b r : Int} (ho : o.op = .binOp .and t x y t') (hx : ρ x = .int .u64 a) (hy : ρ y = .int .u64 b) (h : bits .and .u64 a b = r) (hR : R (.int .u64 r) w) : Gives P o ρ w R := by
  refine gives_of (v := .int .u64 r) (w' := w) ?_ hR
  simp [execOp, ho, hx, hy, go_sem, h]
theorem gives_conv {s d : TypeId} {k k' : IntKind} {x : Operand} {n r : Int} (ho : o.op = .convert s d x) (hx : ρ x = .int k n) (hs : (P.underlying s).isSome = true) (hd : P.underlying d = some (.int k')) (h : k'.wrap n = r) (hR : R (.int k' r) w) : Gives P o ρ w R := by
  refine gives_convert ho hx (v := .int k' r) (w' := w) ?_ hR
  obtain ⟨e, he⟩ := Option.isSome_iff_exists.mp hs
  simp [convert, run_underlying he, run_underlying hd, Conv.intToInt, h]
/-- A slice literal of one value. -/
theorem gives_val {α : Type} {f : α → Value} {t e : TypeId} {bytes : Nat} {z : Value} (E : Elem P t e bytes z) {a : α} {x : Operand} (ho : o.op = .buildSlice t 1 #[(0, x)]) (hx : ρ x = f a) (hu : (f a).cells = #[f a]) (hR : ∀ v w', IsV f [a] v w' → Below w.heap.size w w' → R v w') : Gives P o ρ w R :=
  gives_one E ho hx hu (hR _ _ (isV_new f w e [a] 1 rfl (by omega)) ((Below.refl _ _).alloc (Nat.le_refl _) _))
end
theorem gives_xor64 {P : Program} {o : Oper} {ρ : Operand → Value} {w : World} {R : Value → World → Prop} {t t' : TypeId} {x y : Operand} {a b r : Int} (ho : o.op = .binOp .xor t x y t') (hx : ρ x = .int .u64 a) (hy : ρ y = .int .u64 b) (h : bits .xor .u64 a b = r) (hR : R (.int .u64 r) w) : Gives P o ρ w R := by
  refine gives_of (v := .int .u64 r) (w' := w) ?_ hR
  simp [execOp, ho, hx, hy, go_sem, h]
/-- x[i:k], x[i:] at a step of the walk, what it answers being known. -/
theorem wpList_sliced {P : Program} {w : World} {ops : Array Oper} {rest : List Oper} {o : Oper} {a : Act} {Q : Exit → Act → World → Prop} (hgd : o.guard = none) (t : TypeId) (x y z : Operand) (ho : o.op = .slice t x (some y) (some z) none)
    (v : Value) (hrun : (Instr.sliceAt t (a.eval x) (some (a.eval y)) (some (a.eval z)) none).run P w = .ok v w) (h : wpList P ops Q rest (a.put o.dst v) w) : wpList P ops Q (o :: rest) a w := by
  refine wpList_plain hgd fun K hK => ?_
  unfold Oper.wp execOp
  simp only [ho, Option.map_some, Option.map_none, hrun, Sem.run_bind, Sem.run_pure, Result.andThen_ok]
  exact hK _ _ h
theorem wpList_slicedL {P : Program} {w : World} {ops : Array Oper} {rest : List Oper} {o : Oper} {a : Act} {Q : Exit → Act → World → Prop} (hgd : o.guard = none) (t : TypeId) (x y : Operand) (ho : o.op = .slice t x (some y) none none)
    (v : Value) (hrun : (Instr.sliceAt t (a.eval x) (some (a.eval y)) none none).run P w = .ok v w) (h : wpList P ops Q rest (a.put o.dst v) w) : wpList P ops Q (o :: rest) a w := by
  refine wpList_plain hgd fun K hK => ?_
  unfold Oper.wp execOp
  simp only [ho, Option.map_some, Option.map_none, hrun, Sem.run_bind, Sem.run_pure, Result.andThen_ok]
  exact hK _ _ h
theorem gives_extract {P : Program} {o : Oper} {ρ : Operand → Value} {w : World} {R : Value → World → Prop} {x : Operand} {i : Nat} {vs : Array Value} {v : Value} (ho : o.op = .extract x i) (hx : ρ x = .tuple vs) (hv : vs[i]? = some v) (hR : R v w) : Gives P o ρ w R := by
  refine gives_of (v := v) (w' := w) ?_ hR
  simp [execOp, ho, hx, hv, go_sem]
end Go.Proofs.YtdcgkjcefbceeaaDoor

/- direct's own contracts, but Take's and Put's. -/







namespace Go.Proofs.YtdcgkjcefbceeaaDoor

open Go.RowKit

theorem i64_or_nat (a b : Nat) (ha : a < 2 ^ 63) (hb : b < 2 ^ 63) : bits .or .i64 (a : Int) (b : Int) = ((a ||| b : Nat) : Int) := by
  have h := Nat.or_lt_two_pow ha hb
  show IntKind.i64.wrap ((BitVec.ofInt 64 (a : Int) ||| BitVec.ofInt 64 (b : Int)).toNat : Int) = _
  rw [BitVec.toNat_or, BitVec.ofInt_natCast, BitVec.ofInt_natCast, BitVec.toNat_ofNat, BitVec.toNat_ofNat, Nat.mod_eq_of_lt (by omega), Nat.mod_eq_of_lt (by omega), IntKind.wrap_i64]
  omega
/-- Bits that don't meet are added. -/
theorem or_i64 (n Y P : Nat) (h0 : Y % 2 ^ n = 0) (h1 : P < 2 ^ n) (h2 : Y + P < 2 ^ 63) : bits .or .i64 (Y : Int) (P : Int) = ((Y + P : Nat) : Int) := by
  rw [i64_or_nat _ _ (by omega) (by omega), nat_join n Y P h0 h1]
theorem dcount_yes (n : Int) (w : World) (h0 : 1 ≤ n) (h1 : n ≤ 512) : Calls Tryd.prog 71 #[.int .i64 n] w fun e w' => e = .returned (.bool true) ∧ w = w' := by
  go_enter Tryd.func71, Tryd.ntmps71
  go_wp2
  go_ret
  exact ⟨rfl, rfl⟩
theorem dcount_no (n : Int) (w : World) (h : n < 1 ∨ 512 < n) : Calls Tryd.prog 71 #[.int .i64 n] w fun e w' => e = .returned (.bool false) ∧ w = w' := by
  rcases h with h | h
  · have h2 : decide (1 ≤ n) = false := by simp; omega
    go_enter Tryd.func71, Tryd.ntmps71
    go_wp2
    go_ret
    exact ⟨rfl, rfl⟩
  · have h2 : decide (n ≤ 512) = false := by simp; omega
    have h3 : decide (1 ≤ n) = true := by simp; omega
    go_enter Tryd.func71, Tryd.ntmps71
    go_wp2
    go_ret
    exact ⟨rfl, rfl⟩
theorem wof_fin : ∀ c : Fin 32, 0 < wof (c.val : Int) := by decide +kernel
theorem wof_zero {c : Int} : wof c = 0 ↔ ¬ (0 ≤ c ∧ c ≤ 31) := by
  constructor
  · rintro h ⟨h0, h1⟩
    obtain ⟨k, rfl⟩ := Int.eq_ofNat_of_zero_le h0
    have h2 := wof_fin ⟨k, by omega⟩
    dsimp only at h2
    rw [h] at h2
    exact absurd h2 (by decide)
  · intro h
    exact wof_out (by omega)
set_option maxHeartbeats 2000000 in
set_option maxRecDepth 100000 in
theorem dhead_own (k c m : Int) (w : World) (ht : WTab w) (hk : inInt k) (hc : inInt c) (hm : inInt m) : Calls Tryd.prog 58 #[.int .i64 k, .int .i64 c, .int .i64 m] w (RetH w (dhead k c m)) := by
  have HOF := Lib.hid (of_any c w ht hc.1 hc.2)
  by_cases h0 : k < 0
  · have d0 : decide (k < 0) = true := decide_eq_true h0
    have hE := Lib.hid (dhead_no (k := k) (c := c) (m := m) (by omega))
    clear ht
    go_enter Tryd.func58, Tryd.ntmps58
    go_wp2
    go_ret
    rw [hE.out]
    exact ⟨_, rfl, World.ownsRow_nil _ _ _ _, Below.refl _ _⟩
  · have d0 : decide (k < 0) = false := decide_eq_false h0
    by_cases h1 : 4 ≤ k
    · have d1 : decide (4 ≤ k) = true := decide_eq_true h1
      have hE := Lib.hid (dhead_no (k := k) (c := c) (m := m) (by omega))
      clear ht
      go_enter Tryd.func58, Tryd.ntmps58
      go_wp2
      go_ret
      rw [hE.out]
      exact ⟨_, rfl, World.ownsRow_nil _ _ _ _, Below.refl _ _⟩
    · have d1 : decide (4 ≤ k) = false := decide_eq_false h1
      obtain ⟨W, hW⟩ : ∃ W, W = wof c := ⟨_, rfl⟩
      have hz : W = 0 ↔ ¬ (0 ≤ c ∧ c ≤ 31) := by rw [hW]; exact wof_zero
      rw [← hW] at HOF
      clear hW ht
      by_cases h2 : W = 0
      · have hE := Lib.hid (dhead_no (k := k) (c := c) (m := m) (fun h => (hz.1 h2) ⟨h.2.2.1, h.2.2.2.1⟩))
        have d2 : (W == 0) = true := by simpa using h2
        clear h2 hz
        go_enter Tryd.func58, Tryd.ntmps58
        go_wp2_with (go_at_call 63; refine HOF.out.mono ?_; rintro e w' ⟨rfl, rfl⟩)
        go_ret
        rw [hE.out]
        exact ⟨_, rfl, World.ownsRow_nil _ _ _ _, Below.refl _ _⟩
      · have d2 : (W == 0) = false := by simpa using h2
        have hc2 : 0 ≤ c ∧ c ≤ 31 := Classical.not_not.1 (fun h => h2 (hz.2 h))
        clear h2 hz
        by_cases h3 : m < 1 ∨ 512 < m
        · have hE := Lib.hid (dhead_no (k := k) (c := c) (m := m) (by omega))
          have HC := Lib.hid (dcount_no m w h3)
          clear h3
          go_enter Tryd.func58, Tryd.ntmps58
          go_wp2_with (first | (go_at_call 63; refine HOF.out.mono ?_; rintro e w' ⟨rfl, rfl⟩) | (go_at_call 71; refine HC.out.mono ?_; rintro e w' ⟨rfl, rfl⟩))
          go_ret
          rw [hE.out]
          exact ⟨_, rfl, World.ownsRow_nil _ _ _ _, Below.refl _ _⟩
        · have HC := Lib.hid (dcount_yes m w (by omega) (by omega))
          obtain ⟨K, rfl⟩ := Int.eq_ofNat_of_zero_le (show 0 ≤ k by omega)
          obtain ⟨C, rfl⟩ := Int.eq_ofNat_of_zero_le (show 0 ≤ c by omega)
          obtain ⟨M, rfl⟩ := Int.eq_ofNat_of_zero_le (show 0 ≤ m by omega)
          have hK : K ≤ 3 := by omega
          have hC : C ≤ 31 := by omega
          have hM1 : 1 ≤ M := by omega
          have hM : M ≤ 512 := by omega
          obtain ⟨P, hP⟩ : ∃ P, M = P + 1 := ⟨M - 1, by omega⟩
          have hE := Lib.hid (dhead_in hK hC hM1 hM)
          obtain ⟨a1, ha1⟩ : ∃ a, a = 16384 * K := ⟨_, rfl⟩
          obtain ⟨a2, ha2⟩ : ∃ a, a = 512 * C := ⟨_, rfl⟩
          obtain ⟨Y, hY⟩ : ∃ Y, Y = a1 + a2 := ⟨_, rfl⟩
          obtain ⟨X, hX⟩ : ∃ X, X = Y + P := ⟨_, rfl⟩
          obtain ⟨H, hH⟩ : ∃ H, H = X / 256 := ⟨_, rfl⟩
          obtain ⟨Z, hZ⟩ : ∃ Z, Z = X % 256 := ⟨_, rfl⟩
          have s1 : IntKind.i64.wrap ((K : Int) * 2 ^ 14) = (a1 : Int) := by rw [IntKind.wrap_i64]; omega
          have s1' : (K : Int) * 16384 = (a1 : Int) := by omega
          have s2 : IntKind.i64.wrap ((C : Int) * 2 ^ 9) = (a2 : Int) := by rw [IntKind.wrap_i64]; omega
          have s2' : (C : Int) * 512 = (a2 : Int) := by omega
          have o1 : bits .or .i64 (a1 : Int) (a2 : Int) = (Y : Int) := by rw [hY]; exact or_i64 14 a1 a2 (by omega) (by omega) (by omega)
          have o2 : bits .or .i64 (Y : Int) (P : Int) = (X : Int) := by rw [hX]; exact or_i64 9 Y P (by omega) (by omega) (by omega)
          have hp : ((P + 1 : Nat) : Int) - 1 = (P : Int) := by omega
          have q1 : (X : Int) / 2 ^ 8 = (H : Int) := by omega
          have q1' : (X : Int) / 256 = (H : Int) := by omega
          have w1 : IntKind.u8.wrap (H : Int) = (H : Int) := by rw [IntKind.wrap_u8]; omega
          have w2 : IntKind.u8.wrap (X : Int) = (Z : Int) := by rw [IntKind.wrap_u8]; omega
          have HT := Lib.hid (dheadN_two (k := K) (c := C) (m := M) (X := X) (h := H) (y := Z) (by omega) hH hZ (by omega))
          subst hP
          have hown := own_new w 5 [.int .u8 (H : Int), .int .u8 (Z : Int)] 2 rfl (by omega)
          rw [← HT.out] at hown
          have HOWN := Lib.hid hown
          clear hown ha1 ha2 hY hX hH hZ hc2
          go_enter Tryd.func58, Tryd.ntmps58
          go_wp2_with (first | (go_at_call 63; refine HOF.out.mono ?_; rintro e w' ⟨rfl, rfl⟩) | (go_at_call 71; refine HC.out.mono ?_; rintro e w' ⟨rfl, rfl⟩))
          go_ret
          rw [hE.out]
          refine ⟨_, rfl, ?_, (Below.refl _ _).alloc (Nat.le_refl _) _⟩
          have h := HOWN.out
          rw [HT.out] at h
          rw [dheadN_len, HT.out]
          exact h
/-- Bytes that a call answers. -/
def RetS (w : World) (l : List UInt8) (e : Ending) (w' : World) : Prop := ∃ v, e = .returned v ∧ IsB l v w' ∧ Below w.heap.size w w'
theorem dhead_any (k c m : Int) (w : World) (ht : WTab w) (hk : inInt k) (hc : inInt c) (hm : inInt m) : Calls Tryd.prog 58 #[.int .i64 k, .int .i64 c, .int .i64 m] w (RetS w (dhead k c m)) :=
  (dhead_own k c m w ht hk hc hm).mono fun _ _ ⟨v, h1, h2, h3⟩ => ⟨v, h1, isB_own h2, h3⟩
/-- What read answers. -/
theorem dread_no (A : Option Addr) (n c : Nat) (w : World) (h : n < 2) : Calls Tryd.prog 73 #[.slice A n c] w fun e w' => e = .returned (.tuple #[.int .i64 0, .int .i64 0, .int .i64 0, .bool false]) ∧ Below w.heap.size w w' := by
  have d1 : decide ((n : Int) < 2) = true := decide_eq_true (by omega)
  go_enter Tryd.func73, Tryd.ntmps73
  go_wp2
  refine bodyPost_ret (results_tmp4 rfl _ _ _) rfl ?_
  exact ⟨rfl, Below.refl _ _⟩
set_option maxHeartbeats 2000000 in
theorem dread_yes (A : Option Addr) (n c K C M : Nat) (l : List UInt8) (w : World) (hl : Lies w A (l.map bv)) (hn : l.length = n) (h2 : 2 ≤ n) (hb : n ≤ 1000000)
    (hK : dlook l = ((K : Int), (C : Int), (M : Int), l.drop 2, 0)) : Calls Tryd.prog 73 #[.slice A n c] w fun e w' => e = .returned (.tuple #[.int .i64 (K : Int), .int .i64 (C : Int), .int .i64 (M : Int), .bool true]) ∧ Below w.heap.size w w' := by
  have d1 : decide ((n : Int) < 2) = false := decide_eq_false (by omega)
  have hl2 : 2 ≤ l.length := by omega
  obtain ⟨ad, rfl, _, hcell0⟩ := hl.cell (k := 0) (by rw [List.length_map]; omega)
  obtain ⟨_, hAd, _, hcell1⟩ := hl.cell (k := 1) (by rw [List.length_map]; omega)
  injection hAd with hAd
  subst hAd
  obtain ⟨x, hx⟩ : ∃ x : Nat, x = l[0].toNat := ⟨_, rfl⟩
  obtain ⟨y, hy⟩ : ∃ y : Nat, y = l[1].toNat := ⟨_, rfl⟩
  have hx8 : x < 256 := by rw [hx]; exact UInt8.toNat_lt _
  have hy8 : y < 256 := by rw [hy]; exact UInt8.toNat_lt _
  have hc0 : w.cell? ad = some (.int .u8 (x : Int)) := by
    have e : ad.add 0 = ad := by simp [Addr.add]
    rw [e] at hcell0
    rw [hcell0, List.getElem_map, hx]; rfl
  have hc1 : w.cell? ⟨ad.block, ad.off + 1, none⟩ = some (.int .u8 (y : Int)) := by
    have e : ad.add 1 = ⟨ad.block, ad.off + 1, none⟩ := by simp [Addr.add]
    rw [e] at hcell1
    rw [hcell1, List.getElem_map, hy]; rfl
  obtain ⟨X, hX⟩ : ∃ X, X = 256 * x + y := ⟨_, rfl⟩
  rw [dlook_long hl2 (show X = 256 * l[0].toNat + l[1].toNat by rw [hX, hx, hy])] at hK
  injection hK with hK1 hK
  injection hK with hK2 hK
  injection hK with hK3 _
  have k1 : X / 16384 = K := by omega
  have k2 : X / 512 % 32 = C := by omega
  have k3 : X % 512 + 1 = M := by omega
  obtain ⟨Y, hY⟩ : ∃ Y, Y = 256 * x := ⟨_, rfl⟩
  obtain ⟨Q, hQ⟩ : ∃ Q, Q = X / 512 := ⟨_, rfl⟩
  obtain ⟨P, hP⟩ : ∃ P, P = X % 512 := ⟨_, rfl⟩
  have v1 : IntKind.i64.wrap (x : Int) = (x : Int) := by rw [IntKind.wrap_i64]; omega
  have v2 : IntKind.i64.wrap (y : Int) = (y : Int) := by rw [IntKind.wrap_i64]; omega
  have s1 : IntKind.i64.wrap ((x : Int) * 2 ^ 8) = (Y : Int) := by rw [IntKind.wrap_i64]; omega
  have s1' : (x : Int) * 256 = (Y : Int) := by omega
  have o1 : bits .or .i64 (Y : Int) (y : Int) = (X : Int) := by rw [hX, ← hY]; exact or_i64 8 Y y (by omega) (by omega) (by omega)
  have q1 : (X : Int) / 2 ^ 14 = (K : Int) := by omega
  have q1' : (X : Int) / 16384 = (K : Int) := by omega
  have q2 : (X : Int) / 2 ^ 9 = (Q : Int) := by omega
  have q2' : (X : Int) / 512 = (Q : Int) := by omega
  have a1 : bits .and .i64 (Q : Int) 31 = (C : Int) := by rw [i64_and31_mod]; omega
  have a2 : bits .and .i64 (X : Int) 511 = (P : Int) := by
    have h := i64_mask (X : Int) 9 (by omega)
    rw [show ((2 ^ 9 - 1 : Nat) : Int) = 511 from rfl, show ((2 ^ 9 : Nat) : Int) = 512 from rfl] at h
    rw [h]; omega
  have p1 : (P : Int) + 1 = (M : Int) := by omega
  have hn0 : (0 : Int) < (n : Int) := by omega
  have hn1 : (1 : Int) < (n : Int) := by omega
  have hM : M ≤ 512 := by omega
  clear hX hx hy hY hQ hP k1 k2 k3 hK1 hK2 hK3 hl hn hl2 hcell0 hcell1
  go_enter Tryd.func73, Tryd.ntmps73
  go_wp2
  go_quiet (fail)
  go_wp2
  refine bodyPost_ret (results_tmp4 rfl _ _ _) rfl ?_
  exact ⟨rfl, below_drewN (Below.refl _ _) nq⟩
/-- Any bytes' head, or none. -/
theorem dlook_or (l : List UInt8) : (l.length < 2 ∧ dlook l = (0, 0, 0, [], 2)) ∨ (2 ≤ l.length ∧ ∃ K C M : Nat, K ≤ 3 ∧ C ≤ 31 ∧ 1 ≤ M ∧ M ≤ 512 ∧ dlook l = ((K : Int), (C : Int), (M : Int), l.drop 2, 0)) := by
  by_cases h : l.length < 2
  · exact .inl ⟨h, dlook_short h⟩
  · have h2 : 2 ≤ l.length := by omega
    have hx : l[0].toNat < 256 := UInt8.toNat_lt _
    have hy : l[1].toNat < 256 := UInt8.toNat_lt _
    exact .inr ⟨h2, _, _, _, by omega, by omega, by omega, by omega, dlook_long h2 rfl⟩
set_option maxHeartbeats 2000000 in
set_option maxRecDepth 100000 in
theorem dlook_any (l : List UInt8) (v : Value) (w : World) (hv : IsB l v w) (hb : l.length ≤ 1000000) : Calls Tryd.prog 62 #[v] w (RetK w (dlook l)) := by
  obtain ⟨A, c, rfl, hA, hnc, hcm, hl⟩ := hv
  obtain ⟨n, hn⟩ : ∃ n, n = l.length := ⟨_, rfl⟩
  rw [← hn] at hA hnc hb ⊢
  have hci : (c : Int) ≤ 9223372036854775807 := by unfold maxLen at hcm; omega
  rcases dlook_or l with ⟨h2, hd⟩ | ⟨h2, K, C, M, hK, hC, hM1, hM, hd⟩
  · have HR := Lib.hid (dread_no A n c w (by omega))
    have hE := Lib.hid hd
    clear hd hl hn hA
    go_enter Tryd.func62, Tryd.ntmps62
    go_wp2_with fail
    refine HR.out.mono ?_
    rintro e w1 ⟨rfl, hb1⟩
    go_wp2
    refine bodyPost_ret (results_tmp5 rfl _ _ _) rfl ?_
    rw [hE.out]
    exact ⟨_, rfl, isB_nil _, hb1⟩
  · rw [← hn] at h2
    have HR := Lib.hid (dread_yes A n c K C M l w hl hn.symm h2 hb hd)
    have hE := Lib.hid hd
    obtain ⟨N, hN⟩ : ∃ N, N = n - 2 := ⟨_, rfl⟩
    have HF := Lib.hid fun (W : World) (h : Below w.heap.size w W) => from_named (P := Tryd.prog) elemB (k := 2) (by omega) hnc hcm hn.symm (hl.below h) hA
    rw [show ((2 : Nat) : Int) = 2 from rfl] at HF
    have HPM := Lib.hid (show ((l.drop 2).map bv).length = N by rw [List.length_map, List.length_drop]; omega)
    have HL := Lib.hid (show (l.drop 2).length = N by rw [List.length_drop]; omega)
    have hN6 : N ≤ 1000000 := by omega
    clear hd hl hn hA hN
    go_enter Tryd.func62, Tryd.ntmps62
    go_wp2_with fail
    refine HR.out.mono ?_
    rintro e w1 ⟨rfl, hb1⟩
    obtain ⟨v3, hv3, A3, c3, e3, hA3, _, _, hl3⟩ := HF.out w1 hb1
    rw [HL.out] at e3 hA3
    subst e3
    have HB1 := Lib.hid hb1
    clear hb1
    go_wp2_with (first | (refine wpList_slicedL rfl _ _ _ rfl _ (hv3 _) ?_) | (at_builtin; refine wpList_join elemB rfl _ _ rfl w1.heap.size _ _ _ _ _ _ ((l.drop 2).map bv) w1 rfl rfl hA3 HPM.out hl3 (bv_one _) (World.ownsRow_nil _ _ _ _) (Below.refl _ _) (Nat.le_refl _) (by omega) (by omega) ?_))
    intro v5 w5 hown5 hb5 _ _
    rw [← List.map_drop] at hown5
    have HI5 := Lib.hid (show IsB (l.drop 2) v5 w5 from isB_own hown5)
    have HB5 := Lib.hid (below_then HB1.out hb5)
    clear hown5 hb5
    go_wp2
    refine bodyPost_ret (results_tmp5 rfl _ _ _) rfl ?_
    rw [hE.out]
    exact ⟨_, rfl, HI5.out, HB5.out⟩
/-- A row that is filled from the front with what a function makes of others. -/
def FillRel {α β : Type} (f : α → Option β) (enc : β → Value) (z : Value) (t : TypeId) (l : List α) (w : World) (i : Value) (wr : World) : Prop :=
  ∃ (k : Nat) (acc : List β), k ≤ l.length ∧ i = .int .i64 (k : Int) ∧ omap f (l.take k) = some acc ∧ Row wr w.heap.size t (acc.map enc ++ List.replicate (l.length - k) z) ∧ Below w.heap.size w wr
theorem fill_step {β : Type} {enc : β → Value} {z : Value} {acc : List β} {y : β} {n k : Nat} (hk : k < n) (ha : acc.length = k) : (acc.map enc ++ List.replicate (n - k) z).set k (enc y) = (acc ++ [y]).map enc ++ List.replicate (n - (k + 1)) z := by
  have hl : (acc.map enc).length = k := by rw [List.length_map, ha]
  rw [List.set_append_right _ _ (by omega), hl, Nat.sub_self, show n - k = n - (k + 1) + 1 by omega, List.replicate_succ, List.set_cons_zero, List.map_append, List.append_assoc]
  rfl
end Go.Proofs.YtdcgkjcefbceeaaDoor

/- direct's Put and Take. -/





namespace Go.Proofs.YtdcgkjcefbceeaaDoor

open Go.RowKit

theorem most_is {l : List Nat} {v : Value} {w : World} (h : IsV uv l v w) (hb : l.length ≤ 1000000) (h64 : ∀ x ∈ l, x < 2 ^ 64) : Calls Tryd.prog 52 #[v] w fun e w' => e = .returned (.int .i64 (wmost l : Int)) ∧ w = w' := by
  obtain ⟨A, c, rfl, h2, h3, h4, h5⟩ := h
  exact most_any A _ c l w h2 rfl h3 hb h5 h64
/-- What Unpack answers, as a fact of a region. -/
def Fact.taken (w0 : World) (us : List Nat) (q : List UInt8) (y : Int) : Fact := ⟨fun v w => ∃ u r, v = .tuple #[u, r, .int .i64 y] ∧ IsV uv us u w ∧ OwnB w0 q r w, fun _ _ _ ⟨u, r, h1, h2, h3⟩ hb => ⟨u, r, h1, h2.below hb, h3.below hb⟩⟩
def Fact.ownB (w0 : World) (q : List UInt8) : Fact := ⟨OwnB w0 q, fun _ _ _ h hb => h.below hb⟩
end Go.Proofs.YtdcgkjcefbceeaaDoor

/- Slices of values of several cells each (structs): f tells a value's cells, m how many. Over any program. -/



namespace Go.Proofs.YtdcgkjcefbceeaaDoor

open Go.RowKit

theorem flat_at {α : Type} {f : α → List Value} {m : Nat} (hf : ∀ x, (f x).length = m) : ∀ (l : List α) (k : Nat) (hk : k < l.length) (i : Nat), i < m → (l.flatMap f)[k * m + i]? = (f l[k])[i]?
  | [], _, hk, _, _ => absurd hk (Nat.not_lt_zero _)
  | x :: l, 0, _, i, hi => by
    rw [List.flatMap_cons, Nat.zero_mul, Nat.zero_add, List.getElem?_append_left (by rw [hf]; exact hi)]
    rfl
  | x :: l, k + 1, hk, i, hi => by
    rw [List.flatMap_cons, Nat.succ_mul, List.getElem?_append_right (by rw [hf]; omega), hf, show k * m + m + i - m = k * m + i by omega]
    exact flat_at hf l k (by simpa using hk) i hi
theorem flat_take {α : Type} {f : α → List Value} {m : Nat} (hf : ∀ x, (f x).length = m) : ∀ (l : List α) (k : Nat), (l.take k).flatMap f = (l.flatMap f).take (k * m)
  | [], k => by simp
  | x :: l, 0 => by simp
  | x :: l, k + 1 => by
    rw [List.take_succ_cons, List.flatMap_cons, List.flatMap_cons, flat_take hf l k, Nat.succ_mul, List.take_append, hf, show k * m + m - m = k * m by omega, List.take_of_length_le (l := f x) (by rw [hf]; omega)]
theorem flat_len {α : Type} {f : α → List Value} {m : Nat} (hf : ∀ x, (f x).length = m) : ∀ l : List α, (l.flatMap f).length = l.length * m
  | [] => by simp
  | x :: l => by rw [List.flatMap_cons, List.length_append, hf, flat_len hf l, List.length_cons, Nat.succ_mul, Nat.add_comm]
/-- The slice v holds l, each of whose values takes up the cells f. -/
def IsR {α : Type} (f : α → List Value) (l : List α) (v : Value) (w : World) : Prop := ∃ A c, v = .slice A l.length c ∧ (A = none → l.length = 0) ∧ l.length ≤ c ∧ c ≤ maxLen ∧ Lies w A (l.flatMap f)
section

variable {α : Type} {f : α → List Value} {l : List α} {v : Value} {w w' : World} {A : Option Addr} {n c m : Nat}
theorem IsR.below (h : IsR f l v w) (hb : Below w.heap.size w w') : IsR f l v w' := by
  obtain ⟨A, c, h1, h2, h3, h4, h5⟩ := h
  exact ⟨A, c, h1, h2, h3, h4, h5.below hb⟩
theorem IsR.parts (h : IsR f l (.slice A n c) w) : l.length = n ∧ (A = none → n = 0) ∧ n ≤ c ∧ c ≤ maxLen ∧ Lies w A (l.flatMap f) := by
  obtain ⟨A', c', h1, h2, h3, h4, h5⟩ := h
  injection h1 with e1 e2 e3
  subst e1 e2 e3
  exact ⟨rfl, h2, h3, h4, h5⟩
theorem IsR.shape (h : IsR f l v w) : ∃ A n c, v = .slice A n c := by
  obtain ⟨A', c', h1, _⟩ := h
  exact ⟨_, _, _, h1⟩
theorem IsR.at (h : IsR f l (.slice A n c) w) (hf : ∀ x, (f x).length = m) (hm : 0 < m) {k : Nat} (hk : k < l.length) : ∃ ad, A = some ad ∧ ad.block < w.heap.size ∧ ∀ i, i < m → w.cell? (ad.add (k * m + i)) = (f l[k])[i]? := by
  obtain ⟨_, _, _, _, h5⟩ := h.parts
  have hne : l.flatMap f ≠ [] := by
    intro h0
    have h1 := flat_at hf l k hk 0 hm
    rw [h0, List.getElem?_eq_getElem (l := f l[k]) (by rw [hf]; exact hm)] at h1
    cases h1
  rcases h5 with h5 | ⟨ad, hA, hlt, hc⟩
  · exact absurd h5 hne
  · refine ⟨ad, hA, hlt, fun i hi => ?_⟩
    have h1 := flat_at hf l k hk i hi
    rw [List.getElem?_eq_getElem (l := f l[k]) (by rw [hf]; exact hi)] at h1 ⊢
    exact hc _ _ h1
/-- The first k of it, by x[:k]. -/
theorem IsR.take (h : IsR f l (.slice A n c) w) (hf : ∀ x, (f x).length = m) {k : Nat} (hk : k ≤ n) : IsR f (l.take k) (.slice A k c) w := by
  obtain ⟨h1, h2, h3, h4, h5⟩ := h.parts
  have hl : (l.take k).length = k := by rw [List.length_take]; omega
  exact ⟨A, c, by rw [hl], fun h => by have := h2 h; omega, by rw [hl]; omega, h4, by rw [flat_take hf]; exact h5.take _⟩
end

section

variable {P : Program} {o : Oper} {ρ : Operand → Value} {w : World} {R : Value → World → Prop}
/-- x[k] of a slice whose values take up m cells each: the place. -/
theorem gives_index_wide {t e : TypeId} {m : Nat} (ht : P.underlying t = some (.slice e)) (hs : ∀ W, (sizeOf e).run P W = .ok m W) {x y : Operand} {ad : Addr} {n c k : Nat} (ho : o.op = .indexAddr t x y) (hx : ρ x = .slice (some ad) n c) (hy : ρ y = .int .i64 (k : Int)) (hk : k < n)
    (hR : R (.pointer (some (ad.add (k * m)))) w) : Gives P o ρ w R := by
  refine gives_of (v := .pointer (some (ad.add (k * m)))) (w' := w) ?_ hR
  have h0 : (0 : Int) ≤ (k : Int) := by omega
  have h1 : (k : Int) < (n : Int) := by omega
  simp [execOp, ho, hx, hy, go_sem, ht, hs, h0, h1]
/-- A load of a whole value of several cells, from wherever they lie. -/
theorem gives_load_wide {t : TypeId} {x : Operand} {ad : Addr} {cs : List Value} {d : TypeDesc} (ho : o.op = .load t x) (hx : ρ x = .pointer (some ad)) (hu : P.underlying t = some d) (hd : (match (generalizing := false) d with | .struct _ | .array _ _ => true | _ => false) = true)
    (hs : ∀ W, (sizeOf t).run P W = .ok cs.length W) (hc : ∀ j v, cs[j]? = some v → w.cell? (ad.add j) = some v) (hR : R (.agg cs.toArray) w) : Gives P o ρ w R := by
  refine gives_of (v := .agg cs.toArray) (w' := w) ?_ hR
  have ha : (isAgg t).run P w = .ok true w := by
    unfold isAgg
    rw [Sem.run_bind, run_underlying hu]
    cases d <;> first | rfl | cases hd
  have hl : (loadVar t ad).run P w = .ok (.agg cs.toArray) w := by
    simp [loadVar, ha, hs, run_loadCells_list w ad cs hc]
  simp [execOp, ho, hx, Instr.loadAt, Instr.sureAddr, hl]
/-- p.f: the place of a field, where p is known. -/
theorem gives_field {t : TypeId} {x : Operand} {ad ad' : Addr} {f : Nat} (ho : o.op = .fieldAddr t x f) (hx : ρ x = .pointer (some ad)) (hrun : ∀ W, (Instr.fieldAt t (.pointer (some ad)) f).run P W = .ok (.pointer (some ad')) W)
    (hR : R (.pointer (some ad')) w) : Gives P o ρ w R := by
  refine gives_of (v := .pointer (some ad')) (w' := w) ?_ hR
  simp [execOp, ho, hx, hrun]
end

end Go.Proofs.YtdcgkjcefbceeaaDoor

/- Rows of the call's own whose values take up m cells each: append. Over any program. -/





namespace Go.Proofs.YtdcgkjcefbceeaaDoor

open Go.RowKit

/-- The facts on an element's type that appends ask: m cells, so many bytes. -/
structure ElemW (P : Program) (t e : TypeId) (bytes m : Nat) (z : Value) : Prop where
  under : P.underlying t = some (.slice e)
  cells : z.cells.size = m
  pos : 0 < m
  info : ∃ (i : TypeInfo), P.info? e = some i ∧ i.zero = some z ∧ i.size = m ∧ i.bytes = bytes
section

variable {P : Program} (w : World)
theorem runW_append_lies (base : Nat) (t ty e : TypeId) (i : TypeInfo) (z : Value) (size bytes : Nat) (ht : P.underlying t = some (.slice e)) (hi : P.info? e = some i) (hz : i.zero = some z)
    (hsize : i.size = size) (hby : i.bytes = bytes) (hzs : z.cells.size = size) (hsz : 0 < size)
    (v : Value) (n : Nat) (xs : List Value) (hown : w.ownsRow base e size v n xs) (A : Option Addr) (m c : Nat) (hA : A = none → m = 0) (news : List Value) (hm : news.length = m * size) (hr : Lies w A news) (h1 : ∀ u ∈ news, u.oneCell' = true)
    (h63 : n + m ≤ maxLen) (hbytes : (n + m) * bytes ≤ 140737488355328) (hbase : base ≤ w.heap.size) :
    ∃ v' w', (Builtin.append_ #[t, t] ty #[v, .slice A m c]).run P w = .ok v' w' ∧ w'.ownsRow base e size v' (n + m) (xs ++ news) ∧ w.grownBy w' v.ownBlock ∧
      (v'.ownBlock = v.ownBlock ∨ v'.ownBlock = some w.heap.size) := by
  rcases A with _ | ad
  · have hm0 := hA rfl
    subst hm0
    have hn : news = [] := List.eq_nil_of_length_eq_zero (by rw [hm, Nat.zero_mul])
    subst hn
    refine ⟨v, w, ?_, by simpa using hown, World.grownBy.refl w _, .inl rfl⟩
    rcases hown.2 with ⟨rfl, rfl⟩ | ⟨g, cap, cur, rfl, _, _, hnc, _⟩
    · simp [Builtin.append_, run_underlying ht, sizeOf, typeInfo, hi, Builtin.lenOf, Builtin.firstCells]
    · simp [Builtin.append_, run_underlying ht, sizeOf, typeInfo, hi, Builtin.lenOf, Builtin.firstCells, hnc, storeCells]
  · have hcells : ∀ j u, news[j]? = some u → w.cell? (ad.add j) = some u := by
      intro j u hu
      rcases hr with hr | ⟨ad', hA, _, hc⟩
      · rw [hr] at hu; simp at hu
      · injection hA with hA; subst hA; exact hc j u hu
    obtain ⟨v', w', hrun, h2, h3, _, h5⟩ := run_append_own_at (P := P) w base t ty e i z size bytes ht hi hz hsize hby hzs hsz v n xs hown ad m c news hm hcells h1 h63 hbytes hbase
    exact ⟨v', w', hrun, h2, h3, h5⟩
theorem wpListW_append {ops : Array Oper} {rest : List Oper} {o : Oper} {a : Act} {Q : Exit → Act → World → Prop} (hgd : o.guard = none) (s x : Operand) (t : TypeId)
    (ho : o.op = .call { callee := .builtin .append, args := #[s, x], argTypes := #[t, t] })
    (base : Nat) (e : TypeId) (i : TypeInfo) (z : Value) (size bytes : Nat) (ht : P.underlying t = some (.slice e)) (hi : P.info? e = some i) (hz : i.zero = some z)
    (hsize : i.size = size) (hby : i.bytes = bytes) (hzs : z.cells.size = size) (hsz : 0 < size)
    (v : Value) (n : Nat) (xs : List Value) (hs : a.eval s = v) (hown : w.ownsRow base e size v n xs) (A : Option Addr) (m c : Nat) (hx : a.eval x = .slice A m c) (hA : A = none → m = 0)
    (news : List Value) (hm : news.length = m * size) (hr : Lies w A news) (h1 : ∀ u ∈ news, u.oneCell' = true)
    (h63 : n + m ≤ maxLen) (hbytes : (n + m) * bytes ≤ 140737488355328) (hbase : base ≤ w.heap.size)
    (h : ∀ v' w', w'.ownsRow base e size v' (n + m) (xs ++ news) → w.grownBy w' v.ownBlock → (v'.ownBlock = v.ownBlock ∨ v'.ownBlock = some w.heap.size) → wpList P ops Q rest (a.put o.dst v') w') : wpList P ops Q (o :: rest) a w := by
  refine wpList_plain hgd fun K hK => ?_
  obtain ⟨v', w', hrun, h2, h3, h4⟩ := runW_append_lies (P := P) w base t o.type e i z size bytes ht hi hz hsize hby hzs hsz v n xs hown A m c hA news hm hr h1 h63 hbytes hbase
  unfold Oper.wp execOp
  simp only [ho, resolve, invoke, builtin, Sem.run_bind, Sem.run_pure, Result.andThen_ok, List.map_toArray, List.map_cons, List.map_nil, hs, hx, hrun]
  exact hK _ _ (h v' w' h2 h3 h4)
end
theorem ownW_lt {w : World} {base size n : Nat} {e : TypeId} {v : Value} {xs : List Value} (h : w.ownsRow base e size v n xs) {g : Nat} (hg : v.ownBlock = some g) : base ≤ g ∧ g < w.heap.size := by
  rcases h.2 with ⟨rfl, _⟩ | ⟨g', cap, cur, rfl, hb, hc, _⟩
  · simp [Value.ownBlock] at hg
  · simp [Value.ownBlock] at hg
    subst hg
    exact ⟨hb, (Array.getElem?_eq_some_iff.1 hc).1⟩
theorem belowW_append {w0 w w' : World} {base size : Nat} {e : TypeId} {v : Value} {n : Nat} {xs : List Value} (hb : Below base w0 w) (hown : w.ownsRow base e size v n xs) (hz : base ≤ w.heap.size) (hg : w.grownBy w' v.ownBlock) : Below base w0 w' :=
  hb.grown hg hz fun _ hk => (ownW_lt hown hk).1
theorem ownW_alloc {w : World} {base size n : Nat} {e : TypeId} {v : Value} {xs : List Value} (h : w.ownsRow base e size v n xs) (o : Obj) : (w.alloc o).ownsRow base e size v n xs :=
  own_below h ((Below.refl _ _).alloc (Nat.le_refl _) o)
theorem ownW_base {w : World} {base base' size n : Nat} {e : TypeId} {v : Value} {xs : List Value} (hb : base' ≤ base) (h : w.ownsRow base e size v n xs) : w.ownsRow base' e size v n xs :=
  ⟨h.1, h.2.imp id fun ⟨g, cap, cur, h1, h2, h3⟩ => ⟨g, cap, cur, h1, Nat.le_trans hb h2, h3⟩⟩
theorem cells_new (w : World) (cs : List Value) (t : TypeId) : Lies (w.alloc (.cells cs.toArray t)) (some ⟨w.heap.size, 0, none⟩) cs := by
  have h : Row (w.alloc (.cells cs.toArray t)) w.heap.size t cs := heap_alloc_new w _
  simpa using h.lies 0
/-- append of one value of m cells, at a call of the walk. -/
theorem wpList_pushW {P : Program} {W : World} {ops : Array Oper} {rest : List Oper} {o : Oper} {a : Act} {Q : Exit → Act → World → Prop} {t e : TypeId} {bytes m : Nat} {z : Value} (E : ElemW P t e bytes m z)
    (hgd : o.guard = none) (s x : Operand) (ho : o.op = .call { callee := .builtin .append, args := #[s, x], argTypes := #[t, t] })
    (base : Nat) (v : Value) (n : Nat) (xs cs : List Value) (w w0 : World) (hs : a.eval s = v) (hx : a.eval x = .slice (some ⟨w.heap.size, 0, none⟩) 1 1) (hW : W = w.alloc (.cells cs.toArray e)) (hm : cs.length = m)
    (hu : ∀ u ∈ cs, u.oneCell' = true) (hown : w.ownsRow base e m v n xs) (hb : Below base w0 w) (hbase : base ≤ w.heap.size) (hn : n ≤ 1000000000) (hby : bytes ≤ 100)
    (h : ∀ v' w', w'.ownsRow base e m v' (n + 1) (xs ++ cs) → Below base w0 w' → w.grownBy w' v.ownBlock → (v'.ownBlock = v.ownBlock ∨ v'.ownBlock = some (w.heap.size + 1)) → wpList P ops Q rest (a.put o.dst v') w') : wpList P ops Q (o :: rest) a W := by
  obtain ⟨i, h1, h2, h3, h4⟩ := E.info
  subst hW
  have hle : (n + 1) * bytes ≤ (n + 1) * 100 := Nat.mul_le_mul_left _ hby
  refine wpListW_append _ hgd s x t ho base e i z m bytes E.under h1 h2 h3 h4 E.cells E.pos v n xs hs (ownW_alloc hown _) _ _ _ hx (by simp) cs (by rw [hm, Nat.one_mul]) (cells_new w cs e) hu (by unfold maxLen; omega) (by omega) (by simp; omega) ?_
  intro v' w' hown' hg hq
  refine h v' w' hown' (belowW_append (hb.alloc hbase _) (ownW_alloc hown _) (by simp; omega) hg) ⟨hg.os, hg.tape, hg.output, Nat.le_trans (by simp) hg.size, fun k hk hne => (hg.block k (by simp; omega) hne).trans (Below.heap_alloc w _ k hk)⟩ (by simpa using hq)
/-- The same, where the new block's number stands as g. -/
theorem wpList_pushG {P : Program} {W : World} {ops : Array Oper} {rest : List Oper} {o : Oper} {a : Act} {Q : Exit → Act → World → Prop} {t e : TypeId} {bytes m : Nat} {z : Value} (E : ElemW P t e bytes m z)
    (hgd : o.guard = none) (s x : Operand) (ho : o.op = .call { callee := .builtin .append, args := #[s, x], argTypes := #[t, t] })
    (base : Nat) (v : Value) (n : Nat) (xs cs : List Value) (w w0 : World) (g : Nat) (hgs : g = w.heap.size) (hs : a.eval s = v) (hx : a.eval x = .slice (some ⟨g, 0, none⟩) 1 1) (hW : W = w.alloc (.cells cs.toArray e)) (hm : cs.length = m)
    (hu : ∀ u ∈ cs, u.oneCell' = true) (hown : w.ownsRow base e m v n xs) (hb : Below base w0 w) (hbase : base ≤ w.heap.size) (hn : n ≤ 1000000000) (hby : bytes ≤ 100)
    (h : ∀ v' w', w'.ownsRow base e m v' (n + 1) (xs ++ cs) → Below base w0 w' → w.grownBy w' v.ownBlock → (v'.ownBlock = v.ownBlock ∨ v'.ownBlock = some (w.heap.size + 1)) → wpList P ops Q rest (a.put o.dst v') w') : wpList P ops Q (o :: rest) a W := by
  subst hgs
  exact wpList_pushW E hgd s x ho base v n xs cs w w0 hs hx hW hm hu hown hb hbase hn hby h
/-- append of what lies somewhere, at a call of the walk. -/
theorem wpList_joinW {P : Program} {w : World} {ops : Array Oper} {rest : List Oper} {o : Oper} {a : Act} {Q : Exit → Act → World → Prop} {t e : TypeId} {bytes size : Nat} {z : Value} (E : ElemW P t e bytes size z)
    (hgd : o.guard = none) (s x : Operand) (ho : o.op = .call { callee := .builtin .append, args := #[s, x], argTypes := #[t, t] })
    (base : Nat) (v : Value) (n : Nat) (xs : List Value) (A : Option Addr) (m c : Nat) (news : List Value) (w0 : World) (hs : a.eval s = v) (hx : a.eval x = .slice A m c)
    (hA : A = none → m = 0) (hm : news.length = m * size) (hr : Lies w A news) (h1 : ∀ u ∈ news, u.oneCell' = true)
    (hown : w.ownsRow base e size v n xs) (hb : Below base w0 w) (hbase : base ≤ w.heap.size) (hn : n + m ≤ 1000000000) (hby : bytes ≤ 100)
    (h : ∀ v' w', w'.ownsRow base e size v' (n + m) (xs ++ news) → Below base w0 w' → w.grownBy w' v.ownBlock → (v'.ownBlock = v.ownBlock ∨ v'.ownBlock = some w.heap.size) → wpList P ops Q rest (a.put o.dst v') w') : wpList P ops Q (o :: rest) a w := by
  obtain ⟨i, h2, h3, h4, h5⟩ := E.info
  have hle : (n + m) * bytes ≤ (n + m) * 100 := Nat.mul_le_mul_left _ hby
  refine wpListW_append _ hgd s x t ho base e i z size bytes E.under h2 h3 h4 h5 E.cells E.pos v n xs hs hown A m c hx hA news hm hr h1 (by unfold maxLen; omega) (by omega) hbase ?_
  intro v' w' hown' hg hq
  exact h v' w' hown' (belowW_append hb hown hbase hg) hg hq
section

variable {α : Type} {f : α → List Value} {l : List α} {v : Value} {w w' : World} {m n : Nat}
/-- What the call owns holds so many values. -/
theorem isR_own {base : Nat} {e : TypeId} (hf : ∀ x, (f x).length = m) (hm : 0 < m) (h : w.ownsRow base e m v n (l.flatMap f)) : IsR f l v w := by
  have hl : l.length = n := by
    have h1 := h.1
    rw [flat_len hf] at h1
    exact Nat.eq_of_mul_eq_mul_right hm h1
  rcases h.2 with ⟨rfl, rfl⟩ | ⟨g, cap, cur, rfl, hb, hg, hnc, hcm, hcs, ht⟩
  · obtain rfl := List.eq_nil_of_length_eq_zero hl
    exact ⟨none, 0, rfl, by simp, by simp, by unfold maxLen; omega, Lies.nil⟩
  · exact ⟨_, cap, by rw [hl], by simp, by omega, hcm, .inr ⟨_, rfl, (Array.getElem?_eq_some_iff.1 hg).1, h.cells (g := g) rfl⟩⟩
theorem isR_nil (f : α → List Value) (w : World) : IsR f [] (.slice none 0 0) w := ⟨none, 0, rfl, by simp, by simp, by unfold maxLen; omega, Lies.nil⟩
theorem ownW_made (w : World) (e : TypeId) (m : Nat) : (w.alloc (.cells #[] e)).ownsRow w.heap.size e m (.slice (some ⟨w.heap.size, 0, none⟩) 0 0) 0 [] :=
  ⟨by simp, .inr ⟨w.heap.size, 0, #[], rfl, Nat.le_refl _, heap_alloc_new w _, Nat.le_refl _, by unfold maxLen; omega, by simp, by simp⟩⟩
/-- Of two rows of different element types the one lasts where the other one grows. -/
theorem own_otherW {base base' s1 s2 k : Nat} {e1 e2 : TypeId} {v1 v2 : Value} {xs ys : List Value} (h1 : w.ownsRow base e1 s1 v1 n xs) (h2 : w.ownsRow base' e2 s2 v2 k ys) (hne : e1 ≠ e2) (hg : w.grownBy w' v2.ownBlock) : w'.ownsRow base e1 s1 v1 n xs := by
  refine ⟨h1.1, h1.2.imp id fun ⟨g, cap, cur, hv, hb, hc, r⟩ => ⟨g, cap, cur, hv, hb, ?_, r⟩⟩
  have hlt := (Array.getElem?_eq_some_iff.1 hc).1
  refine (hg.block g hlt ?_).trans hc
  rcases h2.2 with ⟨rfl, _⟩ | ⟨g2, cap2, cur2, rfl, _, hc2, _⟩
  · simp [Value.ownBlock]
  · intro he
    simp [Value.ownBlock] at he
    subst he
    rw [hc] at hc2
    injection hc2 with hc2
    injection hc2 with _ h3
    exact hne h3
theorem flat_snoc (l : List α) (x : α) : (l ++ [x]).flatMap f = l.flatMap f ++ f x := by simp
end
theorem OwnV.other {α : Type} {f : α → Value} {e e2 : TypeId} {w w1 w2 : World} {l : List α} {v y : Value} {B k s : Nat} {ys : List Value} (h : OwnV f e w l v w1) (hy : w1.ownsRow B e2 s y k ys) (hne : e ≠ e2) (hg : w1.grownBy w2 y.ownBlock) : OwnV f e w l v w2 := h.elim fun _ h => ⟨_, own_otherW h hy hne hg⟩
end Go.Proofs.YtdcgkjcefbceeaaDoor

/- Arrays by value: a block that is made, loaded and stored whole. Over any program. -/





namespace Go.Proofs.YtdcgkjcefbceeaaDoor

open Go.RowKit

/-- Cells that are all the same. (A name of its own: the walk's simp writes List.replicate out.) -/
def zeroRow (n : Nat) (z : Value) : List Value := List.replicate n z
theorem zeroRow_len (n : Nat) (z : Value) : (zeroRow n z).length = n := by simp [zeroRow]
/-- The facts on an array type of n elements of one cell. -/
structure ArrT (P : Program) (t e : TypeId) (n : Nat) (z : Value) : Prop where
  under : P.underlying t = some (.array n e)
  info : (P.info? t).map (fun i => (i.zero, i.size)) = some (some (.agg (zeroRow n z).toArray), n)
theorem ArrT.size_ {P : Program} {t e : TypeId} {n : Nat} {z : Value} (E : ArrT P t e n z) : (P.info? t).map (·.size) = some n := (zero_of_info E.info).2

section

variable {P : Program} {w : World} {ops : Array Oper} {rest : List Oper} {o : Oper} {a : Act} {Q : Exit → Act → World → Prop} {t e : TypeId} {n : Nat} {z : Value}
/-- A variable of an array type. -/
theorem wpList_allocArr (E : ArrT P t e n z) (hgd : o.guard = none) (ho : o.op = .alloc t)
    (h : ∀ w', Row w' w.heap.size t (zeroRow n z) → Below w.heap.size w w' → wpList P ops Q rest (a.put o.dst (.pointer (some ⟨w.heap.size, 0, none⟩))) w') : wpList P ops Q (o :: rest) a w := by
  have hz := (zero_of_info E.info).1
  refine wpList_plain hgd fun K hK => ?_
  unfold Oper.wp execOp
  simp only [ho, Instr.alloc, newVar, newRow, Sem.run_bind, Sem.run_pure, hz, Result.andThen_ok, run_newObj]
  refine hK _ _ (h _ ?_ ((Below.refl _ _).alloc (Nat.le_refl _) _))
  exact heap_alloc_new w _
/-- The whole of it loaded. -/
theorem wpList_loadArr (E : ArrT P t e n z) (hgd : o.guard = none) (x : Operand) (ho : o.op = .load t x) (g : Nat) (t' : TypeId) (cs : List Value) (hx : a.eval x = .pointer (some ⟨g, 0, none⟩)) (hr : Row w g t' cs) (hl : cs.length = n)
    (h : wpList P ops Q rest (a.put o.dst (.agg cs.toArray)) w) : wpList P ops Q (o :: rest) a w :=
  wpList_load_row hgd t x ho g hx t' cs.toArray (0, 0) _ hr E.under rfl (by rw [E.size_, ← hl]; simp) h
/-- The whole of it stored. -/
theorem wpList_storeArr (E : ArrT P t e n z) (hgd : o.guard = none) (x y : Operand) (ho : o.op = .store t x y) (g : Nat) (t' : TypeId) (old cs : List Value) (hx : a.eval x = .pointer (some ⟨g, 0, none⟩)) (hy : a.eval y = .agg cs.toArray) (hr : Row w g t' old)
    (hl : cs.length = n) (hl' : old.length = n) (h1 : ∀ u ∈ cs, u.oneCell' = true) (w0 : World) (B : Nat) (hb : Below B w0 w) (hB : B ≤ g)
    (h : ∀ w', Row w' g t' cs → Below B w0 w' → (∀ k ty l, k ≠ g → Row w k ty l → Row w' k ty l) → wpList P ops Q rest (a.put o.dst undef) w') : wpList P ops Q (o :: rest) a w := by
  have hrun := run_storeVar_row (P := P) w g t' t old.toArray cs.toArray hr (by rw [E.size_, ← hl]; simp) (by simp [hl, hl']) (by simpa using h1)
  refine wpList_plain hgd fun K hK => ?_
  unfold Oper.wp execOp
  simp only [ho, hx, hy, Instr.storeAt, Instr.sureAddr, Sem.run_bind, Sem.run_pure, Result.andThen_ok, hrun]
  refine hK _ _ (h _ (setRow_heap w g old.toArray cs.toArray t' (0, 0) hr) ?_ ?_)
  · exact below_setRow hb hB _
  · intro k ty l hk hrk
    exact (setRow_other w g k cs.toArray hk).trans hrk
end
/-- A row of which the first k cells are filled. -/
def fillTo (xs : List Value) (z : Value) (k : Nat) : List Value := xs.take k ++ List.replicate (xs.length - k) z
theorem fillTo_zero (xs : List Value) (z : Value) : fillTo xs z 0 = zeroRow xs.length z := by simp [fillTo, zeroRow]
theorem fillTo_all (xs : List Value) (z : Value) : fillTo xs z xs.length = xs := by simp [fillTo]
theorem fillTo_len (xs : List Value) (z : Value) {k : Nat} (h : k ≤ xs.length) : (fillTo xs z k).length = xs.length := by simp [fillTo]; omega
theorem fillTo_set (xs : List Value) (z : Value) {k : Nat} (h : k < xs.length) : (fillTo xs z k).set k xs[k] = fillTo xs z (k + 1) := by
  unfold fillTo
  have hl : (xs.take k).length = k := by rw [List.length_take]; omega
  obtain ⟨m, hm⟩ : ∃ m, xs.length - k = m + 1 := ⟨xs.length - k - 1, by omega⟩
  rw [List.set_append_right _ _ (by omega), hl, Nat.sub_self, hm, List.replicate_succ, List.set_cons_zero, List.take_succ_eq_append_getElem h, show xs.length - (k + 1) = m by omega, List.append_assoc]
  rfl
/-- What a function answers through a variable of an array type. -/
theorem ret_arr {P : Program} {f : Func} {p : Tmp} {t e : TypeId} {n : Nat} {z : Value} (E : ArrT P t e n z) {K : Ending → World → Prop} {a : Act} {w : World} {g : Nat} {t' : TypeId} {cs : List Value} (hf : f.results = #[.cell p t])
    (hp : a.tmps.getD p undef = .pointer (some ⟨g, 0, none⟩)) (hr : Row w g t' cs) (hl : cs.length = n) (hd : a.defers = []) (hK : K (.returned (.agg cs.toArray)) w) : bodyPost P f K .ret a w :=
  bodyPost_ret (v := .agg cs.toArray) (results_cell_row hf a.tmps w g t' cs.toArray (0, 0) _ hp hr E.under rfl (by rw [E.size_, ← hl]; simp)) hd hK
end Go.Proofs.YtdcgkjcefbceeaaDoor

/- A region that draws, each operation shown once, over ANY relation of worlds (XRegion: over 'old memory as it was'): for a region that also writes: the relation says what each operation leaves as it was; a fact may speak of the values of what its operation waits for. -/



namespace Go.Proofs.YtdcgkjcefbceeaaDoor

open Go.RowKit

/-- A relation of worlds that regions may go by. -/
structure Later (R : World → World → Prop) : Prop where
  refl : ∀ w, R w w
  trans : ∀ {a b c}, R a b → R b c → R a c
  draw : ∀ w, R w { w with drawn := w.drawn + 1 }
def upd (vs : Nat → Value) (i : Nat) (v : Value) : Nat → Value := fun j => if j = i then v else vs j
theorem upd_at (vs : Nat → Value) (i : Nat) (v : Value) : upd vs i v i = v := if_pos rfl
theorem upd_ne (vs : Nat → Value) {i j : Nat} (v : Value) (h : j ≠ i) : upd vs i v j = vs j := if_neg h
/-- What is known of what an operation sees. -/
structure RCtxR (ops : Array Oper) (F : Nat → (Nat → Value) → World → Prop) (a0 : Act) (i : Nat) (ρ : Operand → Value) (vs : Nat → Value) (w : World) : Prop where
  const : ∀ v, ρ (.const v) = v
  func : ∀ f, ρ (.func f) = .func (.func f) #[] #[]
  glob : ∀ g, ρ (.global g) = .pointer (some ⟨g, 0, none⟩)
  new : ∀ d j, writer ops i d = some j → ρ (.tmp d) = vs j
  fact : ∀ j, rpred ops j i = true → F j vs w
  old : ∀ d v, writer ops i d = none → a0.eval (.tmp d) = v → ρ (.tmp d) = v
theorem writer_pred {ops : Array Oper} {i d j : Nat} (h : writer ops i d = some j) : rpred ops j i = true := by
  have h1 := List.find?_some h
  simp at h1
  exact h1.2
section

variable {P : Program} {ops : Array Oper} {Q : Exit → Act → World → Prop} {R : World → World → Prop}
/-- **A region that draws, whose first m operations are each shown once** (the frame: as the text's order gives it); what follows them is shown from where all these have been done. -/
theorem wpAny_region_coreR (HR : Later R) {a0 : Act} {w0 : World} (m : Nat) (hm : m ≤ ops.size) (F : Nat → (Nat → Value) → World → Prop)
    (hok : regionOk ops a0.tmps.size = true)
    (hF : ∀ i vs w w', F i vs w → R w w' → F i vs w')
    (hloc : ∀ i vs vs' w, (∀ k, (k = i ∨ rpred ops k i = true) → vs k = vs' k) → F i vs w → F i vs' w)
    (hstep : ∀ i o, i < m → ops[i]? = some o → ∀ (vs : Nat → Value) (w : World), R w0 w → (∀ j, rpred ops j i = true → F j vs w) →
      if Region.wanted o (yielded ops (puts ops (fun _ => true) vs i a0).tmps) = true then
        o.wp P (puts ops (fun _ => true) vs i a0) w (fun a' w' => ∃ v, a' = (puts ops (fun _ => true) vs i a0).put o.dst v ∧ F i (upd vs i v) w' ∧ R w w') (fun _ _ _ => False)
      else F i (upd vs i undef) w)
    (hwait : ∀ l : Array Bool, HeadInv .any ops m l → (∃ i, i < m ∧ l.getD i true = false) → ∀ t, m ≤ t → t ∉ Region.ready .any ops l)
    (hfin : ∀ (l : Array Bool) (vs : Nat → Value) (w : World), l.size = ops.size → (∀ j, j < m → l.getD j false = true) → (∀ j, m ≤ j → j < ops.size → l.getD j false = false) → R w0 w → (∀ i, i < m → F i vs w) →
      wpAny P .any ops Q (ops.size - m) l (puts ops (fun _ => true) vs m a0) w) :
    wpAny P .any ops Q ops.size (Array.replicate ops.size false) a0 { w0 with drawn := w0.drawn + 1 } := by
  have main : ∀ (fuel : Nat) (l : Array Bool) (vs : Nat → Value) (w : World), l.size = ops.size → left m l ≤ fuel → (∀ i j, i < ops.size → l.getD i false = true → rpred ops j i = true → l.getD j false = true) →
      (∀ t, m ≤ t → t < ops.size → l.getD t false = false) →
      (∀ i, i < ops.size → l.getD i false = true → F i vs w) → R w0 w → wpAny P .any ops Q (fuel + (ops.size - m)) l (puts ops (fun j => l.getD j false) vs ops.size a0) w := by
    intro fuel
    have hend : ∀ (f : Nat) (l : Array Bool) (vs : Nat → Value) (w : World), l.size = ops.size → (∀ t, m ≤ t → t < ops.size → l.getD t false = false) → (∀ i, i < ops.size → l.getD i false = true → F i vs w) → R w0 w → (∀ j, j < m → l.getD j false = true) →
        wpAny P .any ops Q (f + (ops.size - m)) l (puts ops (fun j => l.getD j false) vs ops.size a0) w := by
      intro f l vs w hs htl hfs hb hall
      rw [puts_cut _ vs a0 m ops.size hm htl, puts_congr (fun j => l.getD j false) (fun _ => true) vs vs a0 m hall (fun _ _ _ => rfl)]
      exact wpAny_add _ _ _ _ _ (hfin l vs w hs hall htl hb fun i hi => hfs i (by omega) (hall i hi))
    induction fuel with
    | zero =>
      intro l vs w hs hl hcl htl hfs hb
      refine hend 0 l vs w hs htl hfs hb fun j hj => ?_
      cases h1 : l.getD j false with
      | true => rfl
      | false => have := left_set_in hj (by omega) h1; omega
    | succ fuel ih =>
      intro l vs w hs hl hcl htl hfs hb
      by_cases hall : ∀ j, j < m → l.getD j false = true
      · exact hend _ l vs w hs htl hfs hb hall
      obtain ⟨j0, hj0⟩ := Classical.not_forall.1 hall
      have hj0m : j0 < m := by
        rcases Nat.lt_or_ge j0 m with h | h
        · exact h
        · exact absurd (fun h' => absurd h' (by omega)) hj0
      have hj0f : l.getD j0 false = false := by
        cases h1 : l.getD j0 false with
        | false => rfl
        | true => exact absurd (fun _ => h1) hj0
      have hinv : HeadInv .any ops m l := by
        refine ⟨hs, fun j oj hj hlj e he hbd => ?_, fun t ht ht' => getD_in (by omega) (htl t ht ht')⟩
        refine hcl j e.on (Array.getElem?_eq_some_iff.1 hj).1 hlj ?_
        unfold rpred
        rw [hj, Option.map_some, Option.getD_some, List.any_eq_true]
        exact ⟨e, by simpa using he, by rw [hbd]; simp⟩
      have hwt := hwait l hinv ⟨j0, hj0m, getD_in (by omega) hj0f⟩
      rw [show fuel + 1 + (ops.size - m) = (fuel + (ops.size - m)) + 1 by omega]
      refine ⟨fun hr => ?_, fun i hi => ?_⟩
      · exfalso
        have hallb : ∀ i, i < m → l.getD i false = true := by
          intro i
          induction i using Nat.strongRecOn with
          | ind i ih =>
            intro hi
            by_cases hl : l.getD i false = true
            · exact hl
            · exfalso
              have ho : ops[i]? = some ops[i] := Array.getElem?_eq_getElem (by omega)
              have hok' := regionOk_at hok ho
              have hmem : i ∈ Region.ready .any ops l := mem_ready.2 ⟨by
                have : i < l.size := by omega
                simp [this] at hl ⊢
                exact hl, ops[i], ho, fun e he hbd => ih e.on (hok'.1 e he hbd) (by have := hok'.1 e he hbd; omega)⟩
              rw [hr] at hmem
              cases hmem
        exact absurd (hallb j0 hj0m) (by rw [hj0f]; decide)
      have him : i < m := by
        rcases Nat.lt_or_ge i m with h | h
        · exact h
        · exact absurd hi (hwt i h)
      obtain ⟨h0, o, ho, hpre⟩ := mem_ready.1 hi
      have hlt : i < ops.size := (Array.getElem?_eq_some_iff.1 ho).1
      have h1 : l.getD i false = false := by
        have : i < l.size := by omega
        simp [this] at h0 ⊢
        exact h0
      obtain ⟨hback, hsel, hdst, hlook⟩ := regionOk_at hok ho
      have hpred : ∀ j, rpred ops j i = true → l.getD j false = true ∧ j < i := by
        intro j hj
        unfold rpred at hj
        rw [ho, Option.map_some, Option.getD_some, List.any_eq_true] at hj
        obtain ⟨e, he, hej⟩ := hj
        have he : e ∈ o.after := by simpa using he
        simp at hej
        rw [← hej.2]
        exact ⟨hpre e he hej.1, hback e he hej.1⟩
      have hrd : rdst ops i = o.dst := by unfold rdst; rw [ho]; rfl
      -- what the operation looks at is the same in both frames
      have hsame : ∀ d ∈ o.looksAt ops, (puts ops (fun j => l.getD j false) vs ops.size a0).tmps[d]? = (puts ops (fun _ => true) vs i a0).tmps[d]? := by
        intro d hd
        by_cases hex : ∃ j, j < ops.size ∧ j ≠ i ∧ rdst ops j = some d
        · obtain ⟨j, hj, hne, hjd⟩ := hex
          have hoj : ops[j]? = some ops[j] := Array.getElem?_eq_getElem hj
          have hdj : ops[j].dst = some d := by unfold rdst at hjd; rw [hoj] at hjd; exact hjd
          have huniq : ∀ k, k < ops.size → k ≠ j → rdst ops k ≠ some d := fun k hk hkj => ((regionOk_at hok hoj).2.2.1 d hdj).2 k hk hkj
          rcases hlook d hd j hj hne hjd with hp | hp
          · obtain ⟨hlj, hji⟩ := hpred j hp
            rw [puts_new _ vs a0 d j hjd hlj ops.size hj huniq, puts_new _ vs a0 d j hjd rfl i hji fun k hk => huniq k (by omega)]
          · have hnl : l.getD j false = false := by
              cases hlj : l.getD j false with
              | false => rfl
              | true => exact absurd (hcl j i hj hlj hp) (by rw [h1]; decide)
            have hij : i < j := by
              unfold rpred at hp
              rw [hoj, Option.map_some, Option.getD_some, List.any_eq_true] at hp
              obtain ⟨e, he, hej⟩ := hp
              have he : e ∈ ops[j].after := by simpa using he
              simp at hej
              have := (regionOk_at hok hoj).1 e he hej.1
              omega
            rw [puts_old _ vs a0 d ops.size, puts_old _ vs a0 d i]
            · intro k hk _ hkd
              exact huniq k (by omega) (by omega) hkd
            · intro k hk hlk hkd
              by_cases hkj : k = j
              · subst hkj; rw [hnl] at hlk; cases hlk
              · exact huniq k hk hkj hkd
        · rw [puts_old _ vs a0 d ops.size, puts_old _ vs a0 d i]
          · intro k hk _ hkd; exact hex ⟨k, by omega, by omega, hkd⟩
          · intro k hk hlk hkd
            by_cases hki : k = i
            · subst hki; rw [h1] at hlk; cases hlk
            · exact hex ⟨k, hk, hki, hkd⟩
      have hst := hstep i o him ho vs w hb fun j hj => hfs j (by have := (hpred j hj).2; omega) (hpred j hj).1
      have hwant := wanted_congr hsame
      have hexec : execOp (puts ops (fun j => l.getD j false) vs ops.size a0).eval o = execOp (puts ops (fun _ => true) vs i a0).eval o := by
        refine execOp_congr o hsel fun x hx => ?_
        cases x with
        | tmp d =>
          have hd : d ∈ o.looksAt ops := List.mem_append_left _ (List.mem_filterMap.2 ⟨.tmp d, by simpa using hx, rfl⟩)
          have := hsame d hd
          show (puts ops (fun j => l.getD j false) vs ops.size a0).tmps.getD d undef = (puts ops (fun _ => true) vs i a0).tmps.getD d undef
          rw [Array.getD_eq_getD_getElem?, Array.getD_eq_getD_getElem?, this]
        | _ => rfl
      -- behind it
      have hnext : ∀ v w', F i (upd vs i v) w' → R w w' → wpAny P .any ops Q (fuel + (ops.size - m)) (l.setIfInBounds i true) ((puts ops (fun j => l.getD j false) vs ops.size a0).put o.dst v) w' := by
        intro v w' hv hb'
        have hset := puts_set (ops := ops) (fun j => l.getD j false) vs a0 i v h1 ops.size hlt fun j hj hne d hd => (hdst d (by rw [← hrd]; exact hd)).2 j hj hne
        rw [← hrd, ← hset]
        have hmarks : ∀ j, j < ops.size → (j == i || l.getD j false) = (l.setIfInBounds i true).getD j false := by
          intro j hj
          by_cases hij : i = j
          · subst hij; simp [hs, hlt]
          · rw [getD_set_ne false hij]
            have : (j == i) = false := by simp; omega
            simp [this]
        rw [puts_congr _ (fun j => (l.setIfInBounds i true).getD j false) _ (fun j => if j = i then v else vs j) a0 ops.size hmarks (fun _ _ _ => rfl)]
        refine ih (l.setIfInBounds i true) _ w' (by simp [hs]) (by have := left_set_in him (by omega) h1; omega) ?_ ?_ ?_ (HR.trans hb hb')
        · intro j k hj hlj hjk
          rw [← hmarks j hj] at hlj
          by_cases hji : j = i
          · subst hji; exact getD_set_true (hpred k hjk).1
          · have : (j == i) = false := by simpa using hji
            rw [this, Bool.false_or] at hlj
            exact getD_set_true (hcl j k hj hlj hjk)
        · intro t ht ht'
          rw [getD_set_ne false (by omega)]
          exact htl t ht ht'
        · intro j hj hlj
          rw [← hmarks j hj] at hlj
          by_cases hji : j = i
          · subst hji; exact hv
          · have : (j == i) = false := by simpa using hji
            rw [this, Bool.false_or] at hlj
            refine hF j _ w w' (hloc j vs _ w (fun k hk => ?_) (hfs j hj hlj)) hb'
            have hki : k ≠ i := by
              rcases hk with rfl | hk
              · exact hji
              · rintro rfl
                rw [hcl j k hj hlj hk] at h1
                cases h1
            show vs k = if k = i then v else vs k
            rw [if_neg hki]
      unfold wpOp
      rw [ho]
      show if Region.wanted o _ = true then _ else _
      rw [hwant]
      by_cases hw : Region.wanted o (yielded ops (puts ops (fun _ => true) vs i a0).tmps) = true
      · rw [if_pos hw] at hst ⊢
        exact .inl (wp_carry hexec (fun d hd => by rw [puts_size]; exact (hdst d hd).1) hst fun v w' h => hnext v w' h.1 h.2)
      · rw [if_neg hw] at hst ⊢
        exact hnext undef w hst (HR.refl _)
  have hinit := main m (Array.replicate ops.size false) (fun _ => undef) { w0 with drawn := w0.drawn + 1 } (by simp) (by unfold left; exact Nat.le_trans (List.length_filter_le _ _) (by simp))
    (fun i j hi h _ => by simp [hi] at h) (fun t _ _ => getD_replicate_false _ _) (fun i hi h => by simp [hi] at h) (HR.draw _)
  have hz : puts ops (fun j => (Array.replicate ops.size false).getD j false) (fun _ => undef) ops.size a0 = a0 := by
    have : ∀ n, n ≤ ops.size → puts ops (fun j => (Array.replicate ops.size false).getD j false) (fun _ => undef) n a0 = a0 := by
      intro n
      induction n with
      | zero => intro _; rfl
      | succ n ih =>
        intro hn
        have hlt : n < ops.size := by omega
        rw [puts, if_neg (by simp [hlt]), ih (by omega)]
    exact this _ (Nat.le_refl _)
  rw [hz, show m + (ops.size - m) = ops.size by omega] at hinit
  exact hinit

/-- **A region that draws**: each operation is shown once, in the frame that the text's order gives it, knowing of what it waits for; behind the region all facts hold. -/
theorem wpAny_region_factsR (HR : Later R) {a0 : Act} {w0 : World} (F : Nat → (Nat → Value) → World → Prop)
    (hok : regionOk ops a0.tmps.size = true)
    (hF : ∀ i vs w w', F i vs w → R w w' → F i vs w')
    (hloc : ∀ i vs vs' w, (∀ k, (k = i ∨ rpred ops k i = true) → vs k = vs' k) → F i vs w → F i vs' w)
    (hstep : ∀ i o, ops[i]? = some o → ∀ (vs : Nat → Value) (w : World), R w0 w → (∀ j, rpred ops j i = true → F j vs w) →
      if Region.wanted o (yielded ops (puts ops (fun _ => true) vs i a0).tmps) = true then
        o.wp P (puts ops (fun _ => true) vs i a0) w (fun a' w' => ∃ v, a' = (puts ops (fun _ => true) vs i a0).put o.dst v ∧ F i (upd vs i v) w' ∧ R w w') (fun _ _ _ => False)
      else F i (upd vs i undef) w)
    (hfin : ∀ (vs : Nat → Value) (w : World), R w0 w → (∀ i, i < ops.size → F i vs w) → Q .normal (puts ops (fun _ => true) vs ops.size a0) w) :
    wpAny P .any ops Q ops.size (Array.replicate ops.size false) a0 { w0 with drawn := w0.drawn + 1 } := by
  refine wpAny_region_coreR HR ops.size (Nat.le_refl _) F hok hF hloc (fun i o _ => hstep i o) (fun l _ _ t ht hr => ?_) fun l vs w hs hall _ hb hf => ?_
  · obtain ⟨_, o, ho, _⟩ := mem_ready.1 hr
    have := (Array.getElem?_eq_some_iff.1 ho).1
    omega
  · rw [Nat.sub_self]
    refine ⟨List.eq_nil_iff_forall_not_mem.2 fun i hi => ?_, hfin vs w hb hf⟩
    obtain ⟨h0, o, ho, _⟩ := mem_ready.1 hi
    have hlt := (Array.getElem?_eq_some_iff.1 ho).1
    have h1 := hall i hlt
    have : i < l.size := by omega
    simp [this] at h0 h1
    rw [h0] at h1
    cases h1
def StepAtR (R : World → World → Prop) (P : Program) (ops : Array Oper) (F : Nat → (Nat → Value) → World → Prop) (a0 : Act) (w0 : World) (i : Nat) (o : Oper) : Prop :=
  ∀ (ρ : Operand → Value) (vs : Nat → Value) (w : World), R w0 w → RCtxR ops F a0 i ρ vs w →
    match o.guard with
    | none => Gives P o ρ w fun v w' => F i (upd vs i v) w' ∧ R w w'
    | some (g, b) => ∀ d, rdst ops g = some d → (ρ (.tmp d) = .bool b → Gives P o ρ w fun v w' => F i (upd vs i v) w' ∧ R w w') ∧ (ρ (.tmp d) ≠ .bool b → F i (upd vs i undef) w)

def StepsFromR (R : World → World → Prop) (P : Program) (ops : Array Oper) (F : Nat → (Nat → Value) → World → Prop) (a0 : Act) (w0 : World) : Nat → List Oper → Prop
  | _, [] => True
  | i, o :: r => StepAtR R P ops F a0 w0 i o ∧ StepsFromR R P ops F a0 w0 (i + 1) r

theorem stepsFrom_atR {F : Nat → (Nat → Value) → World → Prop} {a0 : Act} {w0 : World} : ∀ (l : List Oper) (k : Nat), StepsFromR R P ops F a0 w0 k l → ∀ i o, l[i]? = some o → StepAtR R P ops F a0 w0 (k + i) o := by
  intro l
  induction l with
  | nil => intro k _ i o h; simp at h
  | cons x l ih =>
    intro k hs i o h
    cases i with
    | zero => simp at h; subst h; exact hs.1
    | succ i =>
      have := ih (k + 1) hs.2 i o (by simpa using h)
      rwa [Nat.add_assoc, Nat.add_comm 1] at this

/-- **A region that draws**, in the form in which it is used: a fact for each operation, a step for each. -/
theorem region_stepR {a0 : Act} {w0 : World} (F : Nat → (Nat → Value) → World → Prop)
    (hok : regionOk ops a0.tmps.size = true) (hgd : guardsOk ops = true)
    (i : Nat) (o : Oper) (ho : ops[i]? = some o) (hst : StepAtR R P ops F a0 w0 i o) (vs : Nat → Value) (w : World) (hb : R w0 w) (hp : ∀ j, rpred ops j i = true → F j vs w) :
      if Region.wanted o (yielded ops (puts ops (fun _ => true) vs i a0).tmps) = true then
        o.wp P (puts ops (fun _ => true) vs i a0) w (fun a' w' => ∃ v, a' = (puts ops (fun _ => true) vs i a0).put o.dst v ∧ F i (upd vs i v) w' ∧ R w w') (fun _ _ _ => False)
      else F i (upd vs i undef) w := by
  have hlt : i < ops.size := (Array.getElem?_eq_some_iff.1 ho).1
  obtain ⟨hback, hsel, hdst, hlook⟩ := regionOk_at hok ho
  have hpi : ∀ j, rpred ops j i = true → j < i := by
    intro j hj
    unfold rpred at hj
    rw [ho, Option.map_some, Option.getD_some, List.any_eq_true] at hj
    obtain ⟨e, he, hej⟩ := hj
    simp at hej
    rw [← hej.2]
    exact hback e (by simpa using he) hej.1
  have hw : ∀ d j, writer ops i d = some j → rdst ops j = some d ∧ rpred ops j i = true ∧ j < ops.size := by
    intro d j h
    have h1 := List.find?_some h
    have h2 := List.mem_of_find?_eq_some h
    simp at h1
    exact ⟨h1.1, h1.2, List.mem_range.1 h2⟩
  have hctx : RCtxR ops F a0 i (sees ops vs a0 i) vs w := by
    refine ⟨fun _ => rfl, fun _ => rfl, fun _ => rfl, fun d j h => ?_, hp, fun d v h hv => ?_⟩
    · show (match writer ops i d with | some j => vs j | none => a0.eval (.tmp d)) = vs j
      rw [h]
    · show (match writer ops i d with | some j => vs j | none => a0.eval (.tmp d)) = v
      rw [h]
      exact hv
  -- what it looks at is what it sees
  have hsee : ∀ d ∈ o.looksAt ops, (puts ops (fun _ => true) vs i a0).tmps.getD d undef = sees ops vs a0 i (.tmp d) := by
    intro d hd
    show _ = (match writer ops i d with | some j => vs j | none => a0.eval (.tmp d))
    cases hwr : writer ops i d with
    | some j =>
      obtain ⟨h1, h2, h3⟩ := hw d j hwr
      have hoj : ops[j]? = some ops[j] := Array.getElem?_eq_getElem h3
      have hdj : ops[j].dst = some d := by unfold rdst at h1; rw [hoj] at h1; exact h1
      have hu := (regionOk_at hok hoj).2.2.1 d hdj
      have hpn := puts_new (ops := ops) (fun _ => true) vs a0 d j h1 rfl i (hpi j h2) fun k hk => hu.2 k (by omega)
      rw [Array.getD_eq_getD_getElem?, hpn]
      simp [Act.put, hu.1]
    | none =>
      have hno : ∀ j, j < i → rdst ops j ≠ some d := by
        intro j hj hjd
        have h1 := hlook d hd j (by omega) (by omega) hjd
        rcases h1 with h1 | h1
        · have h2 := List.find?_eq_none.1 hwr j (List.mem_range.2 (by omega))
          simp [hjd, h1] at h2
        · have hoj : ops[j]? = some ops[j] := Array.getElem?_eq_getElem (by omega)
          unfold rpred at h1
          rw [hoj, Option.map_some, Option.getD_some, List.any_eq_true] at h1
          obtain ⟨e, he, hej⟩ := h1
          simp at hej
          have := (regionOk_at hok hoj).1 e (by simpa using he) hej.1
          omega
      show _ = a0.tmps.getD d undef
      rw [Array.getD_eq_getD_getElem?, Array.getD_eq_getD_getElem?, puts_old (ops := ops) (fun _ => true) vs a0 d i fun j hj _ => hno j hj]
  have hexec : execOp (puts ops (fun _ => true) vs i a0).eval o = execOp (sees ops vs a0 i) o := by
    refine execOp_congr o hsel fun x hx => ?_
    cases x with
    | tmp d => exact hsee d (List.mem_append_left _ (List.mem_filterMap.2 ⟨.tmp d, by simpa using hx, rfl⟩))
    | _ => rfl
  have h1 := hst (sees ops vs a0 i) vs w hb hctx
  cases hg : o.guard with
  | none =>
    rw [hg] at h1
    have hwa : Region.wanted o (yielded ops (puts ops (fun _ => true) vs i a0).tmps) = true := by unfold Region.wanted; rw [hg]
    rw [if_pos hwa]
    exact wp_of_gives hexec h1
  | some p =>
    obtain ⟨g, b⟩ := p
    rw [hg] at h1
    have hgo : (rdst ops g).isSome = true := by
      unfold guardsOk at hgd
      rw [List.all_eq_true] at hgd
      have := hgd i (List.mem_range.2 hlt)
      rw [ho, Option.map_some, Option.getD_some, hg] at this
      exact this
    obtain ⟨d, hd⟩ := Option.isSome_iff_exists.1 hgo
    obtain ⟨hyes, hno⟩ := h1 d hd
    have hdl : d ∈ o.looksAt ops := List.mem_append_right _ (by rw [hg]; show d ∈ ((ops[g]?).bind (·.dst)).toList; have : (ops[g]?).bind (·.dst) = some d := hd; rw [this]; simp)
    have hv := hsee d hdl
    by_cases hw : Region.wanted o (yielded ops (puts ops (fun _ => true) vs i a0).tmps) = true
    · rw [if_pos hw]
      refine wp_of_gives hexec (hyes ?_)
      rw [← hv]
      unfold Region.wanted at hw
      rw [hg] at hw
      have hd' : (ops[g]?).bind (·.dst) = some d := hd
      simp only [yielded, hd', Option.bind_some] at hw
      rw [Array.getD_eq_getD_getElem?]
      cases hx : (puts ops (fun _ => true) vs i a0).tmps[d]? with
      | none => rw [hx] at hw; simp at hw
      | some v =>
        rw [hx] at hw
        cases v <;> simp at hw
        subst hw
        rfl
    · rw [if_neg hw]
      refine hno fun h => hw ?_
      rw [← hv, Array.getD_eq_getD_getElem?] at h
      unfold Region.wanted
      rw [hg]
      have hd' : (ops[g]?).bind (·.dst) = some d := hd
      simp only [yielded, hd', Option.bind_some]
      cases hx : (puts ops (fun _ => true) vs i a0).tmps[d]? with
      | none => rw [hx] at h; cases h
      | some v =>
        rw [hx] at h
        have h : v = .bool b := h
        subst h
        simp
theorem stepsFrom_allR {F : Nat → (Nat → Value) → World → Prop} {a0 : Act} {w0 : World} (h : StepsFromR R P ops F a0 w0 0 ops.toList) (i : Nat) (o : Oper) (ho : ops[i]? = some o) : StepAtR R P ops F a0 w0 i o := by
  have := stepsFrom_atR ops.toList 0 h i o (by simpa using ho)
  simpa using this
theorem wpAny_region_stepsR (HR : Later R) {a0 : Act} {w0 : World} (F : Nat → (Nat → Value) → World → Prop)
    (hok : regionOk ops a0.tmps.size = true) (hgd : guardsOk ops = true)
    (hF : ∀ i vs w w', F i vs w → R w w' → F i vs w')
    (hloc : ∀ i vs vs' w, (∀ k, (k = i ∨ rpred ops k i = true) → vs k = vs' k) → F i vs w → F i vs' w)
    (hsteps : StepsFromR R P ops F a0 w0 0 ops.toList)
    (hfin : ∀ (vs : Nat → Value) (w : World), R w0 w → (∀ i, i < ops.size → F i vs w) → Q .normal (puts ops (fun _ => true) vs ops.size a0) w) :
    wpAny P .any ops Q ops.size (Array.replicate ops.size false) a0 { w0 with drawn := w0.drawn + 1 } :=
  wpAny_region_factsR HR F hok hF hloc (fun i o ho => region_stepR F hok hgd i o ho (stepsFrom_allR hsteps i o ho)) hfin
theorem wp_region_stepsR (HR : Later R) {id : Nat} {a0 : Act} {w0 : World} (F : Nat → (Nat → Value) → World → Prop) (hm : P.follows .mixedOrders = true)
    (hok : regionOk ops a0.tmps.size = true) (hgd : guardsOk ops = true)
    (hF : ∀ i vs w w', F i vs w → R w w' → F i vs w')
    (hloc : ∀ i vs vs' w, (∀ k, (k = i ∨ rpred ops k i = true) → vs k = vs' k) → F i vs w → F i vs' w)
    (hsteps : StepsFromR R P ops F a0 w0 0 ops.toList)
    (hfin : ∀ (vs : Nat → Value) (w : World), R w0 w → (∀ i, i < ops.size → F i vs w) → Q .normal (puts ops (fun _ => true) vs ops.size a0) w) :
    (Code.region id ops true).wp P Q a0 w0 := wp_region_any hm (wpAny_region_stepsR HR F hok hgd hF hloc hsteps hfin)

/-- **A region that draws and ends in operations that are forced**: those ahead of them each shown once, by facts that later worlds keep; the others in their order. -/
theorem wpAny_region_tailR (HR : Later R) {a0 : Act} {w0 : World} (n : Nat) (F : Nat → (Nat → Value) → World → Prop)
    (hok : regionOk ops a0.tmps.size = true) (hgd : guardsOk ops = true) (hfo : forcedB ops n = true)
    (hF : ∀ i vs w w', F i vs w → R w w' → F i vs w')
    (hloc : ∀ i vs vs' w, (∀ k, (k = i ∨ rpred ops k i = true) → vs k = vs' k) → F i vs w → F i vs' w)
    (hsteps : StepsFromR R P ops F a0 w0 0 (ops.toList.take n))
    (hfin : ∀ (vs : Nat → Value) (w : World), R w0 w → (∀ i, i < n → F i vs w) → wpList P ops Q (ops.toList.drop n) (puts ops (fun _ => true) vs n a0) w) :
    wpAny P .any ops Q ops.size (Array.replicate ops.size false) a0 { w0 with drawn := w0.drawn + 1 } := by
  unfold forcedB at hfo
  simp only [Bool.and_eq_true, decide_eq_true_eq] at hfo
  obtain ⟨⟨⟨hn, hsk⟩, hch⟩, hsq⟩ := hfo
  refine wpAny_region_coreR HR n (by omega) F hok hF hloc (fun i o hi ho => region_stepR F hok hgd i o ho ?_) (fun l inv ⟨i, hi, hun⟩ t ht => tail_waits hsk hch hn inv _ i rfl hi hun t ht) fun l vs w hs h1 h2 hb hf => ?_
  · have := stepsFrom_atR (ops.toList.take n) 0 hsteps i o (by rw [List.getElem?_take, if_pos hi]; simpa using ho)
    simpa using this
  · rw [mask_eq hs h1 h2]
    have h := wpAny_of_seq (P := P) (ops := ops) (md := .any) (Q' := Q) (ops.toList.drop n) n ((Array.range ops.size).map fun i => decide (i < n)) (puts ops (fun _ => true) vs n a0) w (fun j => by rw [List.getElem?_drop]; simp)
      (by rw [List.length_drop, Array.length_toList]; exact hsq) (hfin vs w hb hf)
    rwa [List.length_drop, Array.length_toList] at h
end
/-- What is known of a value, and stays known; 'deps': the operations whose values it speaks of besides. -/
structure FactR (R : World → World → Prop) where
  holds : (Nat → Value) → Value → World → Prop
  deps : List Nat
  stays : ∀ vs v w w', holds vs v w → R w w' → holds vs v w'
  local_ : ∀ vs vs' v w, (∀ k ∈ deps, vs k = vs' k) → holds vs v w → holds vs' v w
def FactR.any {R : World → World → Prop} : FactR R := ⟨fun _ _ _ => True, [], fun _ _ _ _ _ _ => trivial, fun _ _ _ _ _ _ => trivial⟩
def FactR.is {R : World → World → Prop} (u : Value) : FactR R := ⟨fun _ v _ => v = u, [], fun _ _ _ _ h _ => h, fun _ _ _ _ _ h => h⟩
/-- Of the value alone, and the world. -/
def FactR.of {R : World → World → Prop} (H : Value → World → Prop) (h : ∀ v w w', H v w → R w w' → H v w') : FactR R := ⟨fun _ v w => H v w, [], fun _ v w w' a b => h v w w' a b, fun _ _ _ _ _ h => h⟩
def factsR {R : World → World → Prop} (L : List (FactR R)) (i : Nat) (vs : Nat → Value) (w : World) : Prop := (L.getD i FactR.any).holds vs (vs i) w
/-- Each fact speaks of what its operation waits for alone. -/
def depsOk {R : World → World → Prop} (ops : Array Oper) (L : List (FactR R)) : Bool := (List.range L.length).all fun i => (L.getD i FactR.any).deps.all fun k => rpred ops k i
theorem factsR_local {R : World → World → Prop} {ops : Array Oper} {L : List (FactR R)} (h : depsOk ops L = true) (i : Nat) (vs vs' : Nat → Value) (w : World) (hk : ∀ k, (k = i ∨ rpred ops k i = true) → vs k = vs' k) (hf : factsR L i vs w) : factsR L i vs' w := by
  unfold factsR at *
  rw [← hk i (.inl rfl)]
  refine (L.getD i FactR.any).local_ vs vs' _ w (fun k hd => hk k (.inr ?_)) hf
  by_cases hi : i < L.length
  · unfold depsOk at h
    exact List.all_eq_true.1 (List.all_eq_true.1 h i (List.mem_range.2 hi)) k hd
  · rw [List.getD_eq_getElem?_getD, List.getElem?_eq_none (by omega)] at hd
    cases hd
theorem RCtxR.holds {R : World → World → Prop} {ops : Array Oper} {L : List (FactR R)} {a0 : Act} {i : Nat} {ρ : Operand → Value} {vs : Nat → Value} {w : World} (H : RCtxR ops (factsR L) a0 i ρ vs w) (d j : Nat) (h : writer ops i d = some j) : (L.getD j FactR.any).holds vs (ρ (.tmp d)) w := by
  rw [H.new d j h]
  exact H.fact j (writer_pred h)
theorem wpAny_region_listR {R : World → World → Prop} (HR : Later R) {P : Program} {ops : Array Oper} {Q : Exit → Act → World → Prop} {a0 : Act} {w0 : World} (L : List (FactR R)) (ds : List (Option Tmp))
    (hok : regionOk ops a0.tmps.size = true) (hgd : guardsOk ops = true) (hdp : depsOk ops L = true) (hds : ops.toList.map (·.dst) = ds) (hsteps : StepsFromR R P ops (factsR L) a0 w0 0 ops.toList)
    (hfin : ∀ (vs : Nat → Value) (w : World), R w0 w → (∀ i, i < ds.length → factsR L i vs w) → Q .normal (putAll vs ds 0 a0) w) :
    wpAny P .any ops Q ops.size (Array.replicate ops.size false) a0 { w0 with drawn := w0.drawn + 1 } :=
  wpAny_region_stepsR HR (factsR L) hok hgd (fun i vs w w' h hb => (L.getD i FactR.any).stays vs _ w w' h hb) (factsR_local hdp) hsteps (fun vs w hb h => by
    subst hds
    rw [puts_all]
    exact hfin vs w hb fun i hi => h i (by simpa using hi))
/-- The use: the relation, a fact for each operation. -/
theorem wp_region_listR {R : World → World → Prop} (HR : Later R) {P : Program} {ops : Array Oper} {Q : Exit → Act → World → Prop} {id : Nat} {a0 : Act} {w0 : World} (L : List (FactR R)) (ds : List (Option Tmp)) (hm : P.follows .mixedOrders = true)
    (hok : regionOk ops a0.tmps.size = true) (hgd : guardsOk ops = true) (hdp : depsOk ops L = true) (hds : ops.toList.map (·.dst) = ds) (hsteps : StepsFromR R P ops (factsR L) a0 w0 0 ops.toList)
    (hfin : ∀ (vs : Nat → Value) (w : World), R w0 w → (∀ i, i < ds.length → factsR L i vs w) → Q .normal (putAll vs ds 0 a0) w) :
    (Code.region id ops true).wp P Q a0 w0 := wp_region_any hm (wpAny_region_listR HR L ds hok hgd hdp hds hsteps hfin)
end Go.Proofs.YtdcgkjcefbceeaaDoor

/- Rows of structs made whole (make), copied (copy), stored into at an index; a struct's block laid and stored in a region that draws. Over any program. -/











namespace Go.Proofs.YtdcgkjcefbceeaaDoor

open Go.RowKit

theorem flat_replicate {α : Type} {f : α → List Value} (n : Nat) (x : α) : (List.replicate n x).flatMap f = (List.replicate n (f x)).flatten := by
  rw [List.flatMap_def, List.map_replicate]
theorem made_cells (cs : List Value) (_hm : 0 < cs.length) (n : Nat) : (madeCells cs.toArray (n * cs.length)).toList = (List.replicate n cs).flatten := by
  induction n with
  | zero => simp [madeCells]
  | succ n ih =>
    have hs : (madeCells cs.toArray ((n + 1) * cs.length)).toList = (madeCells cs.toArray (n * cs.length)).toList ++ cs := by
      apply List.ext_getElem
      · simp [madeCells, Nat.succ_mul]
      · intro i h1 h2
        have hl : (madeCells cs.toArray (n * cs.length)).toList.length = n * cs.length := by simp [madeCells]
        have hi : i < (n + 1) * cs.length := by simpa [madeCells] using h1
        by_cases h : i < n * cs.length
        · rw [List.getElem_append_left (by rw [hl]; exact h)]
          simp [madeCells]
        · rw [List.getElem_append_right (by rw [hl]; omega)]
          simp only [hl]
          have hi2 : i - n * cs.length < cs.length := by rw [Nat.succ_mul] at hi; omega
          have hmod : i % cs.length = i - n * cs.length := by
            have e : i = (i - n * cs.length) + cs.length * n := by rw [Nat.mul_comm cs.length n]; omega
            conv => lhs; rw [e, Nat.add_mul_mod_self_left, Nat.mod_eq_of_lt hi2]
          simp [madeCells, hmod, hi2]
    rw [hs, ih, List.replicate_succ']
    simp
theorem wpList_makeW {P : Program} {w : World} {ops : Array Oper} {rest : List Oper} {o : Oper} {a : Act} {Q : Exit → Act → World → Prop} {t e : TypeId} {bytes m : Nat} {z : Value} (E : ElemW P t e bytes m z) (zc : List Value) (hzc : z.cells.toList = zc)
    (hgd : o.guard = none) (l c : Operand) (hop : o.op = Op.makeSlice t l c) (kl kc : IntKind) (L C : Int) (n : Nat) (w0 : World) (B : Nat)
    (hl : a.eval l = .int kl L) (hc : a.eval c = .int kc C) (hL : L = (n : Int)) (hC : C = (n : Int)) (hn : n ≤ 1000000000) (hby : bytes ≤ 100) (hb : Below B w0 w) (hB : B ≤ w.heap.size)
    (h : ∀ w', Row w' w.heap.size e (List.replicate n zc).flatten → Below B w0 w' → wpList P ops Q rest (a.put o.dst (.slice (some ⟨w.heap.size, 0, none⟩) n n)) w') :
    wpList P ops Q (o :: rest) a w := by
  subst hzc
  obtain ⟨i, h1, h2, h3, h4⟩ := E.info
  refine wpList_plain hgd fun K hK => ?_
  have hle : bytes * n ≤ 100 * n := Nat.mul_le_mul_right _ hby
  have hbi : (i.bytes : Int) * (n : Int) ≤ 281474976710656 := by
    rw [h4, ← Int.natCast_mul]; omega
  have hrun := run_make (P := P) w t e i z E.under h1 h2 kl kc n n (by omega) (by omega) hbi (by omega)
  subst hL
  subst hC
  unfold Oper.wp
  simp only [execOp, hop, hl, hc, hrun, Result.andThen_ok, Sem.run_bind, Sem.run_pure]
  simp only [Int.toNat_natCast, h3]
  refine hK _ _ (h _ ?_ (hb.alloc hB _))
  unfold Row
  rw [heap_alloc_new]
  congr 2
  rw [← Array.toList_inj]
  have hlen : z.cells.toList.length = m := by rw [Array.length_toList]; exact E.cells
  have hz : z.cells = z.cells.toList.toArray := by simp
  have hm := made_cells z.cells.toList (by rw [hlen]; exact E.pos) n
  rw [hlen] at hm
  rw [List.toList_toArray, ← hm]
/-- What a copy of structs leaves, of a row of the call's own. -/
theorem runW_copy_row {P : Program} (w : World) (dT sT ty elem : TypeId) (m : Nat) (g o dLen dCap : Nat) (a : Addr) (sLen sCap : Nat) (cur : Array Value) (t : TypeId) (cs : List Value)
    (hu : P.underlying dT = some (.slice elem)) (hs : (P.info? elem).map (·.size) = some m)
    (hg : w.heap[g]? = some (.cells cur t (0, 0))) (hn : cs.length = Nat.min sLen dLen * m)
    (hsrc : ∀ j v, cs[j]? = some v → w.cell? (a.add j) = some v) (hfit : o + cs.length ≤ cur.size) (h1 : ∀ v ∈ cs, v.oneCell' = true) :
    (Builtin.copy_ #[dT, sT] ty #[.slice (some ⟨g, o, none⟩) dLen dCap, .slice (some a) sLen sCap]).run P w =
      .ok (goInt (Nat.min sLen dLen)) (w.setRow g (cur.toList.take o ++ cs ++ cur.toList.drop (o + cs.length)).toArray) := by
  have hl := run_loadCells_list (P := P) w a cs hsrc
  have hst := run_storeCells_at P g o t cs 0 cur w hg (by simpa using hfit) h1
  cases hq : P.info? elem with
  | none => simp [hq] at hs
  | some i =>
    have hi : i.size = m := by simpa [hq] using hs
    simp [Builtin.copy_, run_underlying hu, Builtin.lenOf, Builtin.firstCells, sizeOf, typeInfo, hq, hi, ← hn, hl, hst]
/-- The same at a call of the walk. -/
theorem wpList_copyW {P : Program} {w : World} {ops : Array Oper} {rest : List Oper} {o : Oper} {a : Act} {Q : Exit → Act → World → Prop} {t e : TypeId} {bytes m : Nat} {z : Value} (E : ElemW P t e bytes m z)
    (hgd : o.guard = none) (d s : Operand) (ho : o.op = .call { callee := .builtin .copy, args := #[d, s], argTypes := #[t, t] })
    (g off dLen dCap : Nat) (ad : Addr) (sLen sCap : Nat) (cur src new : List Value) (hnew : cur.take off ++ src ++ cur.drop (off + src.length) = new) (k B : Nat) (w0 : World)
    (hd : a.eval d = .slice (some ⟨g, off, none⟩) dLen dCap) (hs : a.eval s = .slice (some ad) sLen sCap) (hr : Row w g e cur) (hk : Nat.min sLen dLen = k) (hm : src.length = k * m)
    (hl : ∀ j v, src[j]? = some v → w.cell? (ad.add j) = some v) (h1 : ∀ u ∈ src, u.oneCell' = true)
    (hfit : off + src.length ≤ cur.length) (hb : Below B w0 w) (hB : B ≤ g)
    (h : ∀ w', Row w' g e new → Below B w0 w' → wpList P ops Q rest (a.put o.dst (goInt k)) w') :
    wpList P ops Q (o :: rest) a w := by
  subst hnew
  obtain ⟨i, h2, h3, h4, h5⟩ := E.info
  refine wpList_plain hgd fun K hK => ?_
  have hrun := runW_copy_row (P := P) w t t o.type e m g off dLen dCap ad sLen sCap cur.toArray e src E.under (by rw [h2]; simp [h4]) hr (by rw [hk]; exact hm) hl (by simpa using hfit) h1
  rw [hk] at hrun
  unfold Oper.wp
  simp [execOp, ho, resolve, invoke, builtin, hd, hs, hrun, Result.andThen]
  exact hK _ _ (h _ (by unfold Row; rw [show cur.take off ++ src ++ cur.drop (off + src.length) = cur.take off ++ (src ++ cur.drop (off + src.length)) by simp]; simpa using setRow_heap w g _ _ e _ hr) (below_setRow hb hB _))
/-- A struct stored into a row. -/
theorem wpList_storeW {P : Program} {w : World} {ops : Array Oper} {rest : List Oper} {o : Oper} {a : Act} {Q : Exit → Act → World → Prop} (hgd : o.guard = none) (t : TypeId) (x y : Operand) (ho : o.op = .store t x y)
    (g off : Nat) (t' : TypeId) (cur cs new : List Value) (hnew : cur.take off ++ cs ++ cur.drop (off + cs.length) = new) (hx : a.eval x = .pointer (some ⟨g, off, none⟩)) (hy : a.eval y = .agg cs.toArray) (hr : Row w g t' cur) (hi : (P.info? t).map (·.size) = some cs.length)
    (hfit : off + cs.length ≤ cur.length) (h1 : ∀ u ∈ cs, u.oneCell' = true) (w0 : World) (B : Nat) (hb : Below B w0 w) (hB : B ≤ g)
    (h : ∀ w', Row w' g t' new → Below B w0 w' → (∀ k ty l, k ≠ g → Row w k ty l → Row w' k ty l) → wpList P ops Q rest (a.put o.dst undef) w') : wpList P ops Q (o :: rest) a w := by
  subst hnew
  have hst := run_storeCells_at P g off t' cs 0 cur.toArray w hr (by simpa using hfit) h1
  have hrun : (storeVar t ⟨g, off, none⟩ (.agg cs.toArray)).run P w = .ok () (w.setRow g (cur.take off ++ cs ++ cur.drop (off + cs.length)).toArray) := by
    cases hq : P.info? t with
    | none => simp [hq] at hi
    | some i =>
      have hs : cs.length = i.size := by simp [hq] at hi; omega
      have hst2 : (storeCells ⟨g, off, none⟩ cs).run P w = .ok () (w.setRow g (cur.take off ++ cs ++ cur.drop (off + cs.length)).toArray) := by simpa using hst
      simp [storeVar, sizeOf, typeInfo, hq, Value.cells, hs]
      rw [← hs]
      simpa using hst2
  refine wpList_plain hgd fun K hK => ?_
  unfold Oper.wp execOp
  simp only [ho, hx, hy, Instr.storeAt, Instr.sureAddr, Sem.run_bind, Sem.run_pure, Result.andThen_ok, hrun]
  refine hK _ _ (h _ (setRow_heap w g cur.toArray _ t' (0, 0) hr) (below_setRow hb hB _) ?_)
  intro k ty l hk hrk
  exact (setRow_other w g k _ hk).trans hrk
section

variable {P : Program} {o : Oper} {ρ : Operand → Value} {w : World} {R : Value → World → Prop}
/-- copy of structs into a row, as one operation. -/
theorem gives_copyW {t e : TypeId} {bytes m : Nat} {z : Value} (E : ElemW P t e bytes m z) {d s : Operand} (ho : o.op = .call { callee := .builtin .copy, args := #[d, s], argTypes := #[t, t] })
    {g off dLen dCap : Nat} {ad : Addr} {sLen sCap : Nat} {cur src : List Value} {k : Nat}
    (hd : ρ d = .slice (some ⟨g, off, none⟩) dLen dCap) (hs : ρ s = .slice (some ad) sLen sCap) (hr : Row w g e cur) (hk : Nat.min sLen dLen = k) (hm : src.length = k * m)
    (hl : ∀ j v, src[j]? = some v → w.cell? (ad.add j) = some v) (h1 : ∀ u ∈ src, u.oneCell' = true) (hfit : off + src.length ≤ cur.length)
    (hR : R (goInt k) (w.setRow g (cur.take off ++ src ++ cur.drop (off + src.length)).toArray)) : Gives P o ρ w R := by
  obtain ⟨i, h2, h3, h4, h5⟩ := E.info
  have hrun := runW_copy_row (P := P) w t t o.type e m g off dLen dCap ad sLen sCap cur.toArray e src E.under (by rw [h2]; simp [h4]) hr (by rw [hk]; exact hm) hl (by simpa using hfit) h1
  rw [hk] at hrun
  refine gives_of (v := goInt k) ?_ hR
  simp [execOp, ho, resolve, invoke, builtin, hd, hs, hrun, Result.andThen]
/-- A variable of a struct's type laid. -/
theorem gives_alloc {t : TypeId} {z : Value} {i : TypeInfo} (hi : P.info? t = some i) (hz : i.zero = some z) (ho : o.op = .alloc t) (hR : R (.pointer (some ⟨w.heap.size, 0, none⟩)) (w.alloc (.cells z.cells t))) : Gives P o ρ w R := by
  refine gives_of (v := .pointer (some ⟨w.heap.size, 0, none⟩)) (w' := w.alloc (.cells z.cells t)) ?_ hR
  have hz2 : (zeroValue t).run P w = .ok z w := by simp [zeroValue, typeInfo, hi, hz]
  unfold execOp
  simp only [ho, Instr.alloc, newVar, newRow, Sem.run_bind, Sem.run_pure, hz2, Result.andThen_ok, run_newObj]
  rfl
/-- The whole of a struct stored. -/
theorem gives_store_row {t t' : TypeId} {x y : Operand} {g : Nat} {old cs : List Value} (ho : o.op = .store t x y) (hx : ρ x = .pointer (some ⟨g, 0, none⟩)) (hy : ρ y = .agg cs.toArray) (hr : Row w g t' old)
    (hi : (P.info? t).map (·.size) = some cs.length) (hl : old.length = cs.length) (h1 : ∀ u ∈ cs, u.oneCell' = true) (hR : R undef (w.setRow g cs.toArray)) : Gives P o ρ w R := by
  have hrun := run_storeVar_row (P := P) w g t' t old.toArray cs.toArray hr (by simpa using hi) (by simp [hl]) (by simpa using h1)
  have h : (execOp ρ o).run P w = .ok .skip (w.setRow g cs.toArray) := by
    unfold execOp
    simp only [ho, hx, hy, Instr.storeAt, Instr.sureAddr, Sem.run_bind, Sem.run_pure, Result.andThen_ok, hrun]
  unfold Gives
  rw [h]
  exact hR
end
theorem rowAll_set {w : World} {g : Nat} {t : TypeId} {old cs : List Value} (h : Row w g t old) : Row (w.setRow g cs.toArray) g t cs := setRow_heap w g old.toArray cs.toArray t (0, 0) h
theorem rowAll_far {w : World} {g k : Nat} {t : TypeId} {l : List Value} {cs : Array Value} (hk : k ≠ g) (h : Row w k t l) : Row (w.setRow g cs) k t l := (setRow_other w g k cs hk).trans h
/-- A row made later lasts where block g alone changes. -/
theorem own_past {w w' : World} {base s n g : Nat} {e : TypeId} {v : Value} {xs : List Value} (h : w.ownsRow base e s v n xs) (hg : w.grownBy w' (some g)) (hlt : g < base) : w'.ownsRow base e s v n xs := by
  refine h.kept hg ?_
  rcases h.2 with ⟨rfl, _⟩ | ⟨g2, cap2, cur2, rfl, hge, _⟩
  · exact .inl rfl
  · refine .inr ?_
    simp only [Value.ownBlock, ne_eq, Option.some.injEq]
    omega
theorem grown_set (w : World) (g i : Nat) (v : Value) : w.grownBy (w.setCell ⟨g, i, none⟩ v) (some g) :=
  ⟨rfl, rfl, rfl, by rw [World.size_setCell]; exact Nat.le_refl _, fun k _ hne => Below.heap_setCell w _ v k (fun h => hne (by rw [h]))⟩
theorem isR_row {α : Type} {f : α → List Value} {l : List α} {w : World} {g : Nat} {t : TypeId} {m : Nat} (h : Row w g t (l.flatMap f)) (hl : l.length = m) (hm : m ≤ 1000000) : IsR f l (.slice (some ⟨g, 0, none⟩) m m) w := by
  refine ⟨some ⟨g, 0, none⟩, m, by rw [hl], fun h => by (cases h), by omega, by unfold maxLen; omega, ?_⟩
  have := h.lies 0
  rwa [List.drop_zero] at this
theorem flat_drop {α : Type} {f : α → List Value} {m : Nat} (hf : ∀ x, (f x).length = m) : ∀ (l : List α) (k : Nat), (l.drop k).flatMap f = (l.flatMap f).drop (k * m)
  | [], k => by simp
  | x :: l, 0 => by simp
  | x :: l, k + 1 => by
    rw [List.drop_succ_cons, List.flatMap_cons, flat_drop hf l k, Nat.succ_mul, List.drop_append, hf, show k * m + m - m = k * m by omega, List.drop_of_length_le (l := f x) (by rw [hf]; omega), List.nil_append]
theorem ElemW.size_ {P : Program} {t e : TypeId} {bytes m : Nat} {z : Value} (E : ElemW P t e bytes m z) (w : World) : (sizeOf e).run P w = .ok m w := by
  obtain ⟨i, h1, _, h3, _⟩ := E.info
  simp [sizeOf, typeInfo, h1, h3]
/-- x[k:] of a slice of structs, as one equation. -/
theorem fromR_named {P : Program} {α : Type} {f : α → List Value} {w : World} {t e : TypeId} {bytes m : Nat} {z : Value} (E : ElemW P t e bytes m z) (hf : ∀ x, (f x).length = m) {A : Option Addr} {n c k : Nat} {l : List α} (hk : k ≤ n) (hI : IsR f l (.slice A n c) w) :
    ∃ v, (∀ W, (Instr.sliceAt t (.slice A n c) (some (.int .i64 (k : Int))) none none).run P W = .ok v W) ∧ IsR f (l.drop k) v w := by
  obtain ⟨hxs, hA, hnc, hcm, hl⟩ := hI.parts
  have ht := E.under
  have he : P.elem t = e := by simp [Program.elem, ht]
  refine ⟨.slice (if c = k then A else A.map (·.add (k * m))) (n - k) (c - k), fun W => ?_, if c = k then A else A.map (·.add (k * m)), c - k, ?_, ?_, ?_, by omega, ?_⟩
  · rw [run_sliceAt_slice W t _ _ _ _ (by rw [he]; exact ht), run_slice_l W t A n c (by rw [he]; exact ht) .i64 (k : Int) (by omega) (by omega), he, E.size_]
    simp [sliced]
  · rw [List.length_drop, hxs]
  · intro hB
    have : A = none := by
      split at hB
      · exact hB
      · cases A with
        | none => rfl
        | some ad => simp at hB
    have := hA this
    rw [List.length_drop, hxs]
    omega
  · rw [List.length_drop, hxs]; omega
  · rw [flat_drop hf]
    have hp := E.pos
    have h1 := hl.drop (k := k * m) (cap := c * m) (by rw [flat_len hf, hxs]; exact Nat.mul_le_mul_right _ hnc)
    by_cases hc : c = k
    · subst hc; simpa using h1
    · rw [if_neg (fun h => hc (Nat.eq_of_mul_eq_mul_right hp h))] at h1
      rw [if_neg hc]; exact h1
/-- Old memory as it was; whatever block holds just these cells holds them on, and a block of their type stays one: for a region that lays a block and stores them. -/
def Keep (B : Nat) (T : TypeId) (cs : List Value) (w w' : World) : Prop := Below B w w' ∧ (∀ h, Row w h T cs → Row w' h T cs) ∧ (∀ h old, Row w h T old → old.length = cs.length → ∃ old', old'.length = cs.length ∧ Row w' h T old')
theorem keep_later (B : Nat) (T : TypeId) (cs : List Value) : Later (Keep B T cs) where
  refl := fun _ => ⟨Below.refl _ _, fun _ h => h, fun _ old h hl => ⟨old, hl, h⟩⟩
  trans := fun h1 h2 => ⟨h1.1.trans h2.1, fun k h => h2.2.1 k (h1.2.1 k h), fun k old h hl => (h1.2.2 k old h hl).elim fun o h => h2.2.2 k o h.2 h.1⟩
  draw := fun _ => ⟨⟨rfl, rfl, rfl, Nat.le_refl _, fun _ _ => rfl⟩, fun _ h => h, fun _ old h hl => ⟨old, hl, h⟩⟩
theorem Keep.of {B : Nat} {T : TypeId} {cs : List Value} {w w' : World} (hB : B ≤ w.heap.size) (h : Below w.heap.size w w') : Keep B T cs w w' :=
  ⟨h.mono hB, fun _ hr => hr.below h hr.lt, fun _ old hr hl => ⟨old, hl, hr.below h hr.lt⟩⟩
theorem Keep.self {B : Nat} {T : TypeId} {cs : List Value} (w : World) : Keep B T cs w w := (keep_later B T cs).refl w
theorem Keep.alloc {B : Nat} {T : TypeId} {cs : List Value} {w : World} (hB : B ≤ w.heap.size) (o : Obj) : Keep B T cs w (w.alloc o) := Keep.of hB ((Below.refl _ _).alloc (Nat.le_refl _) _)
theorem Keep.store {B : Nat} {T : TypeId} {cs old : List Value} {w : World} {g : Nat} (hB : B ≤ g) (hr : Row w g T old) : Keep B T cs w (w.setRow g cs.toArray) :=
  ⟨below_setRow (Below.refl _ _) hB _, fun k h => if hk : k = g then by subst hk; exact rowAll_set hr else rowAll_far hk h,
    fun k o h hl => if hk : k = g then by subst hk; exact ⟨cs, rfl, rowAll_set hr⟩ else ⟨o, hl, rowAll_far hk h⟩⟩
/-- The pointer to a variable that such a region lays. -/
def FactR.laid (B : Nat) (T : TypeId) (cs : List Value) : FactR (Keep B T cs) := FactR.of (fun v w => ∃ h old, v = .pointer (some ⟨h, 0, none⟩) ∧ B ≤ h ∧ old.length = cs.length ∧ Row w h T old)
  fun _ _ _ ⟨h, old, h1, h2, h3, h4⟩ hk => (hk.2.2 h old h4 h3).elim fun o ho => ⟨h, o, h1, h2, ho.1, ho.2⟩
/-- Operation p's pointer has what it is to have. -/
def FactR.stored (B : Nat) (T : TypeId) (cs : List Value) (p : Nat) : FactR (Keep B T cs) := ⟨fun vs _ w => ∃ h, vs p = .pointer (some ⟨h, 0, none⟩) ∧ B ≤ h ∧ Row w h T cs, [p],
  fun _ _ _ _ ⟨h, h1, h2, h3⟩ hk => ⟨h, h1, h2, hk.2.1 h h3⟩, fun _ _ _ _ hp ⟨h, h1, h2, h3⟩ => ⟨h, by rw [← hp p (by simp)]; exact h1, h2, h3⟩⟩
/-- All but block g as it was, and that holds either what it held or what it is to hold. -/
def Turn (B g : Nat) (T : TypeId) (cur new : List Value) (w w' : World) : Prop := Below B w w' ∧ (Row w g T cur → Row w' g T cur ∨ Row w' g T new) ∧ (Row w g T new → Row w' g T new)
theorem turn_later (B g : Nat) (T : TypeId) (cur new : List Value) : Later (Turn B g T cur new) where
  refl := fun _ => ⟨Below.refl _ _, .inl, id⟩
  trans := fun h1 h2 => ⟨h1.1.trans h2.1, fun h => (h1.2.1 h).elim (fun h => h2.2.1 h) (fun h => .inr (h2.2.2 h)), fun h => h2.2.2 (h1.2.2 h)⟩
  draw := fun _ => ⟨⟨rfl, rfl, rfl, Nat.le_refl _, fun _ _ => rfl⟩, .inl, id⟩
end Go.Proofs.YtdcgkjcefbceeaaDoor

/- Numbers that rise, or fall (layer 9), as plain mathematics. -/





namespace Go.Proofs.YtdcgkjcefbceeaaDoor

/-- By how much, whether it falls, whether that is a difference. -/
def gdiff (a b : Int) : Nat × Bool × Bool :=
  if b < a then (if 9223372036854775808 ≤ a - b then (0, false, false) else ((a - b).toNat, true, true))
  else if 9223372036854775808 ≤ b - a then (0, false, false) else ((b - a).toNat, false, true)
def gstep (a : Int) (u : Nat) (f : Bool) : Int × Bool :=
  if 9223372036854775808 ≤ (u : Int) then (0, false)
  else if f = true then (if a < -9223372036854775808 + (u : Int) then (0, false) else (a - u, true))
  else if 9223372036854775807 - (u : Int) < a then (0, false) else (a + u, true)
theorem gdiff_cases (a b : Int) : (gdiff a b = (0, false, false) ∧ (9223372036854775808 ≤ a - b ∨ 9223372036854775808 ≤ b - a)) ∨
    (b < a ∧ a - b < 9223372036854775808 ∧ gdiff a b = ((a - b).toNat, true, true)) ∨ (a ≤ b ∧ b - a < 9223372036854775808 ∧ gdiff a b = ((b - a).toNat, false, true)) := by
  unfold gdiff
  by_cases h : b < a
  · rw [if_pos h]
    by_cases h2 : 9223372036854775808 ≤ a - b
    · rw [if_pos h2]; exact .inl ⟨rfl, .inl h2⟩
    · rw [if_neg h2]; exact .inr (.inl ⟨h, by omega, rfl⟩)
  · rw [if_neg h]
    by_cases h2 : 9223372036854775808 ≤ b - a
    · rw [if_pos h2]; exact .inl ⟨rfl, .inr h2⟩
    · rw [if_neg h2]; exact .inr (.inr ⟨by omega, by omega, rfl⟩)
theorem gdiff_lt (a b : Int) : ((gdiff a b).1 : Int) < 9223372036854775808 := by
  rcases gdiff_cases a b with ⟨h, _⟩ | ⟨h1, h2, h⟩ | ⟨h1, h2, h⟩ <;> rw [h] <;> dsimp only <;> omega
theorem gdiff_lt64 (a b : Int) : (gdiff a b).1 < 2 ^ 64 := by
  have := gdiff_lt a b
  show (gdiff a b).1 < 18446744073709551616
  omega
theorem gstep_bd {a : Int} {u : Nat} {f : Bool} (ha : inInt a) : inInt (gstep a u f).1 := by
  unfold inInt at ha ⊢
  unfold gstep
  split
  · exact ⟨by omega, by omega⟩
  · split
    · split
      · exact ⟨by omega, by omega⟩
      · exact ⟨by dsimp only; omega, by dsimp only; omega⟩
    · split
      · exact ⟨by omega, by omega⟩
      · exact ⟨by dsimp only; omega, by dsimp only; omega⟩
/-- P9.1: a difference leads from the one to the other. -/
theorem gstep_gdiff {a b : Int} (hb : inInt b) (h : (gdiff a b).2.2 = true) : gstep a (gdiff a b).1 (gdiff a b).2.1 = (b, true) := by
  unfold inInt at hb
  rcases gdiff_cases a b with ⟨h3, _⟩ | ⟨h1, h2, h3⟩ | ⟨h1, h2, h3⟩
  · rw [h3] at h; cases h
  · rw [h3]
    dsimp only
    unfold gstep
    have e : (((a - b).toNat : Nat) : Int) = a - b := by omega
    rw [e, if_neg (by omega), if_pos rfl, if_neg (by omega)]
    congr 1
    omega
  · rw [h3]
    dsimp only
    unfold gstep
    have e : (((b - a).toNat : Nat) : Int) = b - a := by omega
    rw [e, if_neg (by omega), if_neg (by decide), if_neg (by omega)]
    congr 1
    omega
theorem gdiff_back (a b : Int) : (gdiff b a).1 = (gdiff a b).1 ∧ (gdiff b a).2.2 = (gdiff a b).2.2 := by
  rcases gdiff_cases a b with ⟨h, h1⟩ | ⟨h1, h2, h⟩ | ⟨h1, h2, h⟩ <;> rcases gdiff_cases b a with ⟨k, k1⟩ | ⟨k1, k2, k⟩ | ⟨k1, k2, k⟩ <;> rw [h, k] <;> dsimp only <;> first | exact ⟨rfl, rfl⟩ | (exfalso; omega) | exact ⟨by omega, rfl⟩
theorem gdiff_self (a : Int) : gdiff a a = (0, false, true) := by unfold gdiff; rw [if_neg (by omega), if_neg (by omega)]; simp
/-- A size, of two numbers one behind the other, if they fall, or rise, as is said. -/
def gone (f : Bool) (a b : Int) : Option Nat := if (gdiff a b).2.2 = true ∧ ((gdiff a b).1 = 0 ∨ (gdiff a b).2.1 = f) then some (gdiff a b).1 else none
theorem gone_yes {f : Bool} {a b : Int} (h : (gdiff a b).2.2 = true) (h2 : (gdiff a b).1 = 0 ∨ (gdiff a b).2.1 = f) : gone f a b = some (gdiff a b).1 := if_pos ⟨h, h2⟩
theorem gone_not {f : Bool} {a b : Int} (h : ¬ ((gdiff a b).2.2 = true ∧ ((gdiff a b).1 = 0 ∨ (gdiff a b).2.1 = f))) : gone f a b = none := if_neg h
theorem gone_lt {f : Bool} {a b : Int} {u : Nat} (h : gone f a b = some u) : (u : Int) < 9223372036854775808 := by
  unfold gone at h
  split at h
  · injection h with h; rw [← h]; exact gdiff_lt a b
  · cases h
theorem gone_step {f : Bool} {a b : Int} {u : Nat} (ha : inInt a) (hb : inInt b) (h : gone f a b = some u) : gstep a u f = (b, true) := by
  unfold gone at h
  split at h
  · rename_i hh
    injection h with h
    subst h
    have hs := gstep_gdiff hb hh.1
    rcases hh.2 with h0 | h0
    · rcases gdiff_cases a b with ⟨k, _⟩ | ⟨k1, k2, k⟩ | ⟨k1, k2, k⟩
      · rw [k] at hh; cases hh.1
      · rw [k] at h0; dsimp only at h0; omega
      · rw [k] at h0
        dsimp only at h0
        have e : a = b := by omega
        subst e
        rw [gdiff_self]
        unfold inInt at ha
        unfold gstep
        rw [if_neg (by decide)]
        dsimp only
        cases f
        · rw [if_neg (by decide), if_neg (by omega)]; simp
        · rw [if_pos rfl, if_neg (by omega)]; simp
    · rw [h0] at hs; exact hs
  · cases h
def gat (l : List Int) (f : Bool) (i : Nat) : Option Nat := gone f (l.getD i 0) (l.getD (i + 1) 0)
/-- The sizes of numbers. -/
def gsizes (l : List Int) (f : Bool) (k : Nat) : Option (List Nat) := omap (gat l f) (List.range k)
theorem gsizes_succ {l : List Int} {f : Bool} {k : Nat} {us : List Nat} {u : Nat} (h : gsizes l f k = some us) (hu : gat l f k = some u) : gsizes l f (k + 1) = some (us ++ [u]) := by
  unfold gsizes at *
  rw [List.range_succ, omap_snoc, h, hu]
theorem gsizes_none {l : List Int} {f : Bool} {k n : Nat} (hk : k < n) (h : gat l f k = none) : gsizes l f n = none := omap_none (List.mem_range.2 hk) h
theorem gsizes_len {l : List Int} {f : Bool} {k : Nat} {us : List Nat} (h : gsizes l f k = some us) : us.length = k := by rw [omap_len h, List.length_range]
theorem gsizes_lt {l : List Int} {f : Bool} {k : Nat} {us : List Nat} (h : gsizes l f k = some us) : ∀ u ∈ us, (u : Int) < 9223372036854775808 := by
  intro u hu
  obtain ⟨i, _, hi⟩ := omap_mem h hu
  exact gone_lt hi
theorem gsizes_64 {l : List Int} {f : Bool} {k : Nat} {us : List Nat} (h : gsizes l f k = some us) : ∀ u ∈ us, u < 2 ^ 64 := by
  intro u hu
  have := gsizes_lt h u hu
  show u < 18446744073709551616
  omega
def gfalls (l : List Int) : Bool := decide (l.getD 1 0 < l.getD 0 0)
/-- Are all sizes the same? -/
def gall (us : List Nat) : Bool := us.all fun u => u == us.headD 0
def gwide (us : List Nat) : Nat := (wclosest (max 2 (wmost us) : Nat)).toNat
def gcode (us : List Nat) : Nat := (wcode (gwide us : Int)).toNat
/-- A code and a width that stand for one another, for so many bits. -/
theorem gwide_code : ∀ n : Fin 65, 2 ≤ n.val → 2 ≤ wclosest (n.val : Int) ∧ wclosest (n.val : Int) ≤ 64 ∧ 1 ≤ wcode (wclosest (n.val : Int)) ∧ wcode (wclosest (n.val : Int)) ≤ 31 ∧ wof (wcode (wclosest (n.val : Int))) = wclosest (n.val : Int) ∧ (n.val : Int) ≤ wclosest (n.val : Int) := by decide +kernel
theorem gwide_int {us : List Nat} (h : ∀ u ∈ us, u < 2 ^ 64) : wclosest ((max 2 (wmost us) : Nat) : Int) = (gwide us : Int) ∧ wcode (gwide us : Int) = (gcode us : Int) ∧ wof (gcode us : Int) = (gwide us : Int) ∧ 2 ≤ gwide us ∧ gwide us ≤ 64 ∧ 1 ≤ gcode us ∧ gcode us ≤ 31 ∧ wmost us ≤ gwide us := by
  have hm := wmost_64 h
  have h1 := gwide_code ⟨max 2 (wmost us), by omega⟩ (Nat.le_max_left _ _)
  dsimp only at h1
  have e1 : wclosest ((max 2 (wmost us) : Nat) : Int) = (gwide us : Int) := by unfold gwide; omega
  rw [e1] at h1
  have e2 : wcode (gwide us : Int) = (gcode us : Int) := by unfold gcode; omega
  rw [e2] at h1
  exact ⟨e1, e2, h1.2.2.2.2.1, by omega, by omega, by omega, by omega, by omega⟩
theorem gwide_room {us : List Nat} (h : ∀ u ∈ us, u < 2 ^ 64) : ∀ u ∈ us, u < 2 ^ gwide us := by
  obtain ⟨_, _, _, _, h1, _, _, h2⟩ := gwide_int h
  intro u hu
  have h3 := (wbits_iff (wtop_lt h) h1).1 (by rw [wtop_bits h]; exact h2)
  exact Nat.lt_of_le_of_lt (wtop_mem hu) h3
/-- The first difference, as a number with its sign. -/
def gfirst (l : List Int) (us : List Nat) : Int := if gfalls l = true then -(us.headD 0 : Int) else (us.headD 0 : Int)
def gtail (us : List Nat) : List UInt8 := if gall us = true then [] else bpack us.tail (gwide us.tail)
def gnum (us : List Nat) : Nat := if gall us = true then 0 else gcode us.tail
def glay (l : List Int) (s : Bool) (us : List Nat) : List UInt8 := dheadN 3 (gnum us) l.length ++ vput (vint (l.headD 0) s) ++ vput (vint (gfirst l us) true) ++ gtail us
/-- What Put answers. -/
def gputE (l : List Int) (s : Bool) : List UInt8 × Int :=
  if dplain l s = none ∨ l.length < 2 ∨ 512 < l.length then ([], 1)
  else match gsizes l (gfalls l) (l.length - 1) with | none => ([], 1) | some us => (glay l s us, 0)
theorem gputE_no {l : List Int} {s : Bool} (h : dplain l s = none ∨ l.length < 2 ∨ 512 < l.length) : gputE l s = ([], 1) := if_pos h
theorem gputE_none {l : List Int} {s : Bool} (h : gsizes l (gfalls l) (l.length - 1) = none) : gputE l s = ([], 1) := by unfold gputE; split <;> simp [h]
theorem gputE_some {l : List Int} {s : Bool} {us : List Nat} (h1 : dplain l s ≠ none) (h2 : 2 ≤ l.length) (h3 : l.length ≤ 512) (h : gsizes l (gfalls l) (l.length - 1) = some us) : gputE l s = (glay l s us, 0) := by
  unfold gputE
  rw [if_neg (by rintro (h | h | h) <;> first | exact h1 h | omega), h]
/-- The next number. -/
def gnext (s f : Bool) (x : Int) (u : Nat) : Option Int := if (gstep x u f).2 = true ∧ (s = true ∨ 0 ≤ (gstep x u f).1) then some (gstep x u f).1 else none
def gwalk (s f : Bool) : Int → List Nat → Option (List Int)
  | _, [] => some []
  | x, u :: us => match gnext s f x u with | none => none | some y => (gwalk s f y us).map (y :: ·)
def glast : Int → List Int → Int
  | x, [] => x
  | _, y :: ys => glast y ys
theorem glast_snoc (x : Int) (ys : List Int) (y : Int) : glast x (ys ++ [y]) = y := by
  induction ys generalizing x with
  | nil => rfl
  | cons z zs ih => exact ih z
theorem gwalk_snoc (s f : Bool) (x : Int) (us : List Nat) (u : Nat) : gwalk s f x (us ++ [u]) = match gwalk s f x us with | none => none | some ys => match gnext s f (glast x ys) u with | none => none | some y => some (ys ++ [y]) := by
  induction us generalizing x with
  | nil =>
    simp only [List.nil_append, gwalk, glast]
    cases gnext s f x u <;> rfl
  | cons v us ih =>
    simp only [List.cons_append, gwalk]
    cases gnext s f x v with
    | none => rfl
    | some y =>
      dsimp only
      rw [ih]
      cases gwalk s f y us with
      | none => rfl
      | some ys =>
        simp only [Option.map_some, glast]
        cases gnext s f (glast y ys) u <;> rfl
theorem gwalk_len {s f : Bool} : ∀ {us : List Nat} {x : Int} {ys : List Int}, gwalk s f x us = some ys → ys.length = us.length
  | [], x, ys, h => by simp [gwalk] at h; subst h; rfl
  | u :: us, x, ys, h => by
    rw [gwalk] at h
    cases hn : gnext s f x u with
    | none => rw [hn] at h; cases h
    | some y =>
      rw [hn] at h
      dsimp only at h
      cases hw : gwalk s f y us with
      | none => rw [hw] at h; cases h
      | some zs =>
        rw [hw] at h
        simp at h
        subst h
        simp [gwalk_len hw]
theorem gwalk_take_none {s f : Bool} {x : Int} {us : List Nat} {k : Nat} (h : gwalk s f x (us.take k) = none) : gwalk s f x us = none := by
  induction us generalizing x k with
  | nil => simp [gwalk] at h
  | cons u us ih =>
    cases k with
    | zero => simp [gwalk] at h
    | succ k =>
      rw [List.take_succ_cons, gwalk] at h
      rw [gwalk]
      cases hn : gnext s f x u with
      | none => rfl
      | some y =>
        rw [hn] at h
        dsimp only at h ⊢
        cases hw : gwalk s f y (us.take k) with
        | none => rw [ih hw]; rfl
        | some zs => rw [hw] at h; cases h
/-- What Take answers. -/
def gbad : List Int × List UInt8 × Int := ([], [], 2)
def gend (s f : Bool) (x : Int) (us : List Nat) (q : List UInt8) : List Int × List UInt8 × Int := match gwalk s f x us with | none => gbad | some ys => (x :: ys, q, 0)
def gmore (s f : Bool) (x : Int) (u : Nat) (c m : Int) (r : List UInt8) : List Int × List UInt8 × Int :=
  if 0 < c then match unpacksAny r (m - 2) (wof c) with | (us, q, e) => if e ≠ 0 then gbad else gend s f x (u :: us) q
  else gend s f x (List.replicate (m - 1).toNat u) r
def gbody (s : Bool) (c m : Int) (r : List UInt8) : List Int × List UInt8 × Int :=
  match vtint r s with
  | none => gbad
  | some (x, r1) => match vtint r1 true with
    | none => gbad
    | some (d, r2) => if (gdiff 0 d).2.2 = true then gmore s (gdiff 0 d).2.1 x (gdiff 0 d).1 c m r2 else gbad
def gtakeE (l : List UInt8) (s : Bool) : List Int × List UInt8 × Int :=
  if (dlook l).2.2.2.2 ≠ 0 ∨ (dlook l).1 ≠ 3 ∨ (dlook l).2.2.1 < 2 then gbad else gbody s (dlook l).2.1 (dlook l).2.2.1 (dlook l).2.2.2.1

theorem vtint_put {x : Int} {s : Bool} (hx : inInt x) (h : s = true ∨ 0 ≤ x) (r : List UInt8) : vtint (vput (vint x s) ++ r) s = some (x, r) := by
  unfold inInt at hx
  cases s with
  | true =>
    have hb := vzig_bd hx.1 hx.2
    have e : vint x true = (vzig x).toNat := rfl
    rw [e, vtint_true (vtake_put (by omega) r), Int.toNat_of_nonneg hb.1, vzag_vzig]
  | false =>
    have h0 : 0 ≤ x := h.elim (fun h => nomatch h) id
    have e : vint x false = (x % 18446744073709551616).toNat := rfl
    have e2 : x % 18446744073709551616 = x := by omega
    rw [e, e2, vtint_small (vtake_put (by omega) r) (by omega), Int.toNat_of_nonneg h0]
theorem gnext_of {s f : Bool} {a b : Int} {u : Nat} (ha : inInt a) (hb : inInt b) (hs : s = true ∨ 0 ≤ b) (h : gone f a b = some u) : gnext s f a u = some b := by
  unfold gnext
  rw [gone_step ha hb h]
  exact if_pos ⟨rfl, hs⟩
/-- Sizes lead from each number to the next one. -/
theorem gwalk_sizes {s f : Bool} {l : List Int} (hl : ∀ x ∈ l, inInt x ∧ (s = true ∨ 0 ≤ x)) : ∀ (k : Nat) (us : List Nat), k + 1 ≤ l.length → gsizes l f k = some us → gwalk s f (l.getD 0 0) us = some ((l.drop 1).take k) ∧ glast (l.getD 0 0) ((l.drop 1).take k) = l.getD k 0
  | 0, us, _, h => by simp [gsizes, omap] at h; subst h; simp [gwalk, glast]
  | k + 1, us, hk, h => by
    unfold gsizes at h
    rw [List.range_succ, omap_snoc] at h
    cases hg : omap (gat l f) (List.range k) with
    | none => rw [hg] at h; cases h
    | some vs =>
      rw [hg] at h
      dsimp only at h
      cases hu : gat l f k with
      | none => rw [hu] at h; cases h
      | some u =>
        rw [hu] at h
        injection h with h
        subst h
        obtain ⟨h1, h2⟩ := gwalk_sizes hl k vs (by omega) hg
        have hd : (l.drop 1).take (k + 1) = (l.drop 1).take k ++ [l.getD (k + 1) 0] := by
          rw [List.take_succ_eq_append_getElem (by rw [List.length_drop]; omega), List.getElem_drop]
          congr 2
          rw [List.getD_eq_getElem?_getD, List.getElem?_eq_getElem (show k + 1 < l.length by omega)]
          simp [Nat.add_comm]
        have hm : ∀ i, i < l.length → inInt (l.getD i 0) ∧ (s = true ∨ 0 ≤ l.getD i 0) := by
          intro i hi
          rw [List.getD_eq_getElem?_getD, List.getElem?_eq_getElem hi]
          exact hl _ (List.getElem_mem hi)
        refine ⟨?_, by rw [hd, glast_snoc]⟩
        rw [gwalk_snoc, h1, hd]
        dsimp only
        rw [h2, gnext_of (hm k (by omega)).1 (hm (k + 1) (by omega)).1 (hm (k + 1) (by omega)).2 hu]
theorem gall_same {us : List Nat} (h : gall us = true) : us = List.replicate us.length (us.headD 0) := by
  unfold gall at h
  rw [List.eq_replicate_iff]
  refine ⟨rfl, fun u hu => ?_⟩
  have := List.all_eq_true.1 h u hu
  simpa using this
/-- What the first size says: how much, and whether it falls. -/
theorem gfirst_diff {l : List Int} {us : List Nat} (h2 : 2 ≤ l.length) (h : gsizes l (gfalls l) (l.length - 1) = some us) : gdiff 0 (gfirst l us) = (us.headD 0, gfalls l, true) ∧ inInt (gfirst l us) := by
  obtain ⟨k, hk⟩ : ∃ k, l.length - 1 = k + 1 := ⟨l.length - 2, by omega⟩
  have h0 : gat l (gfalls l) 0 = some (us.headD 0) := by
    unfold gsizes at h
    rw [hk, List.range_succ_eq_map, omap] at h
    cases hz : gat l (gfalls l) 0 with
    | none => rw [hz] at h; cases h
    | some u =>
      rw [hz] at h
      dsimp only at h
      cases hr : omap (gat l (gfalls l)) ((List.range k).map Nat.succ) with
      | none => rw [hr] at h; cases h
      | some vs => rw [hr] at h; injection h with h; subst h; rfl
  have hlt := gone_lt h0
  have hf : gfalls l = true → 0 < us.headD 0 := by
    intro hf
    have hba : l.getD 1 0 < l.getD 0 0 := of_decide_eq_true hf
    unfold gat gone at h0
    split at h0
    · injection h0 with h0
      rename_i hh
      rcases gdiff_cases (l.getD 0 0) (l.getD (0 + 1) 0) with ⟨k, _⟩ | ⟨k1, k2, k⟩ | ⟨k1, k2, k⟩
      · rw [k] at hh; cases hh.1
      · rw [k] at h0; dsimp only at h0; omega
      · rw [Nat.zero_add] at k1; omega
    · cases h0
  unfold gfirst inInt
  generalize us.headD 0 = u at *
  cases hg : gfalls l with
  | true =>
    have := hf hg
    rw [if_pos rfl]
    refine ⟨?_, by omega, by omega⟩
    unfold gdiff
    rw [if_pos (by omega), if_neg (by omega)]
    congr 1
    omega
  | false =>
    rw [if_neg (by decide)]
    refine ⟨?_, by omega, by omega⟩
    unfold gdiff
    rw [if_neg (by omega), if_neg (by omega)]
    congr 1
/-- P9.4. -/
theorem gtake_back {l : List Int} {s : Bool} {us : List Nat} (hl : ∀ x ∈ l, inInt x ∧ (s = true ∨ 0 ≤ x)) (h2 : 2 ≤ l.length) (h5 : l.length ≤ 512) (h : gsizes l (gfalls l) (l.length - 1) = some us) (b : List UInt8) :
    gtakeE (glay l s us ++ b) s = (l, b, 0) := by
  obtain ⟨hd, hi⟩ := gfirst_diff h2 h
  have hul := gsizes_len h
  have h64 := gsizes_64 h
  have h64t : ∀ u ∈ us.tail, u < 2 ^ 64 := fun u hu => h64 u (List.mem_of_mem_tail hu)
  obtain ⟨hw, _⟩ := gwalk_sizes hl (l.length - 1) us (by omega) h
  obtain ⟨x0, l', rfl⟩ : ∃ x0 l', l = x0 :: l' := by cases l with | nil => simp at h2 | cons x0 l' => exact ⟨x0, l', rfl⟩
  have hw' : gwalk s (gfalls (x0 :: l')) x0 us = some l' := by
    rw [List.length_cons, Nat.add_sub_cancel] at hw
    simpa using hw
  have hx := hl x0 List.mem_cons_self
  have hcode : gnum us ≤ 31 := by
    unfold gnum
    split
    · omega
    · exact (gwide_int h64t).2.2.2.2.2.2.1
  have hlook : dlook (glay (x0 :: l') s us ++ b) = (3, (gnum us : Int), ((x0 :: l').length : Int), vput (vint x0 s) ++ (vput (vint (gfirst (x0 :: l') us) true) ++ (gtail us ++ b)), 0) := by
    unfold glay
    simp only [List.append_assoc]
    exact dlook_head (k := 3) (by omega) hcode (by omega) h5 _
  unfold gtakeE
  rw [hlook]
  dsimp only
  rw [if_neg (by omega)]
  unfold gbody
  rw [vtint_put hx.1 hx.2]
  dsimp only
  rw [vtint_put hi (.inl rfl)]
  dsimp only
  rw [hd]
  dsimp only
  rw [if_pos rfl]
  unfold gmore
  by_cases ha : gall us = true
  · have e1 : gnum us = 0 := by unfold gnum; rw [if_pos ha]
    have e2 : gtail us = [] := by unfold gtail; rw [if_pos ha]
    have e3 : List.replicate (((x0 :: l').length : Int) - 1).toNat (us.headD 0) = us := by
      rw [show (((x0 :: l').length : Int) - 1).toNat = us.length by omega]
      exact (gall_same ha).symm
    rw [e1, e2, if_neg (by omega), e3]
    unfold gend
    rw [hw']
    rfl
  · have e1 : gnum us = gcode us.tail := by unfold gnum; rw [if_neg ha]
    have e2 : gtail us = bpack us.tail (gwide us.tail) := by unfold gtail; rw [if_neg ha]
    obtain ⟨_, _, g3, g4, g5, g6, g7, _⟩ := gwide_int h64t
    have hut : (us.tail).length = (x0 :: l').length - 2 := by rw [List.length_tail]; omega
    have e4 : ((x0 :: l').length : Int) - 2 = ((us.tail).length : Int) := by omega
    have e5 : us = us.headD 0 :: us.tail := by cases us with | nil => simp at hul h2; omega | cons a t => rfl
    rw [e1, e2, if_pos (by omega), g3, e4, unpacksAny_in _ _ _ (by omega) g5, unpacks_back (gwide_room h64t)]
    dsimp only
    rw [if_neg (by decide), ← e5]
    unfold gend
    rw [hw']
end Go.Proofs.YtdcgkjcefbceeaaDoor

/- Contracts of layer 9's reference: Diff, Step. -/





namespace Go.Proofs.YtdcgkjcefbceeaaDoor

open Go.RowKit

theorem wrap_sub {a b d : Int} (h : d = a - b) (h0 : 0 ≤ d) (h1 : d < 18446744073709551616) : IntKind.u64.wrap (IntKind.u64.wrap a - IntKind.u64.wrap b) = d := by
  rw [IntKind.wrap_u64, IntKind.wrap_u64, IntKind.wrap_u64]; omega
/-- What Diff answers. -/
def RetD (p : Nat × Bool × Bool) (e : Ending) : Prop := e = .returned (.tuple #[.int .u64 (p.1 : Int), .bool p.2.1, .bool p.2.2])
theorem rdiff9_any (a b : Int) (w : World) (ha : inInt a) (hb : inInt b) : Calls Tryd.prog 60 #[.int .i64 a, .int .i64 b] w fun e w' => RetD (gdiff a b) e ∧ w = w' := by
  unfold inInt at ha hb
  by_cases h : b < a
  · obtain ⟨d, hd⟩ : ∃ d, d = a - b := ⟨_, rfl⟩
    have hw := wrap_sub hd (by omega) (by omega)
    by_cases h2 : 9223372036854775808 ≤ d
    · have hE : Hid (gdiff a b = (0, false, false)) := Lib.hid (by unfold gdiff; rw [if_pos h, if_pos (by omega)])
      have d1 : decide (b < a) = true := decide_eq_true h
      have d2 : decide ((9223372036854775808 : Int) ≤ d) = true := decide_eq_true h2
      clear hd ha hb
      go_enter Tryd.func60, Tryd.ntmps60
      go_wp2
      refine bodyPost_ret (results_tmp3 rfl _ _ _) rfl ?_
      rw [hE.out]
      exact ⟨rfl, rfl⟩
    · have hE : Hid (gdiff a b = (d.toNat, true, true)) := Lib.hid (by unfold gdiff; rw [if_pos h, if_neg (by omega), hd])
      have d1 : decide (b < a) = true := decide_eq_true h
      have d2 : decide ((9223372036854775808 : Int) ≤ d) = false := decide_eq_false h2
      have HD := Lib.hid (show ((d.toNat : Nat) : Int) = d by omega)
      clear hd ha hb
      go_enter Tryd.func60, Tryd.ntmps60
      go_wp2
      refine bodyPost_ret (results_tmp3 rfl _ _ _) rfl ?_
      rw [hE.out]
      unfold RetD
      dsimp only
      rw [HD.out]
      exact ⟨rfl, rfl⟩
  · obtain ⟨d, hd⟩ : ∃ d, d = b - a := ⟨_, rfl⟩
    have hw := wrap_sub hd (by omega) (by omega)
    by_cases h2 : 9223372036854775808 ≤ d
    · have hE : Hid (gdiff a b = (0, false, false)) := Lib.hid (by unfold gdiff; rw [if_neg h, if_pos (by omega)])
      have d1 : decide (b < a) = false := decide_eq_false h
      have d2 : decide ((9223372036854775808 : Int) ≤ d) = true := decide_eq_true h2
      clear hd ha hb
      go_enter Tryd.func60, Tryd.ntmps60
      go_wp2
      refine bodyPost_ret (results_tmp3 rfl _ _ _) rfl ?_
      rw [hE.out]
      exact ⟨rfl, rfl⟩
    · have hE : Hid (gdiff a b = (d.toNat, false, true)) := Lib.hid (by unfold gdiff; rw [if_neg h, if_neg (by omega), hd])
      have d1 : decide (b < a) = false := decide_eq_false h
      have d2 : decide ((9223372036854775808 : Int) ≤ d) = false := decide_eq_false h2
      have HD := Lib.hid (show ((d.toNat : Nat) : Int) = d by omega)
      clear hd ha hb
      go_enter Tryd.func60, Tryd.ntmps60
      go_wp2
      refine bodyPost_ret (results_tmp3 rfl _ _ _) rfl ?_
      rw [hE.out]
      unfold RetD
      dsimp only
      rw [HD.out]
      exact ⟨rfl, rfl⟩
/-- What Step answers. -/
def RetG (p : Int × Bool) (e : Ending) : Prop := e = .returned (.tuple #[.int .i64 p.1, .bool p.2])
theorem rstep9_any (a U : Int) (f : Bool) (w : World) (ha : inInt a) (h0 : 0 ≤ U) (h1 : U < 18446744073709551616) : Calls Tryd.prog 44 #[.int .i64 a, .int .u64 U, .bool f] w fun e w' => RetG (gstep a U.toNat f) e ∧ w = w' := by
  unfold inInt at ha
  have hU : ((U.toNat : Nat) : Int) = U := by omega
  by_cases h2 : 9223372036854775808 ≤ U
  · have hE : Hid (gstep a U.toNat f = (0, false)) := Lib.hid (by unfold gstep; rw [hU, if_pos h2])
    have d2 : decide ((9223372036854775808 : Int) ≤ U) = true := decide_eq_true h2
    clear hU
    go_enter Tryd.func44, Tryd.ntmps44
    go_wp2
    go_ret2
    rw [hE.out]
    exact ⟨rfl, rfl⟩
  · have d2 : decide ((9223372036854775808 : Int) ≤ U) = false := decide_eq_false h2
    have hw1 : IntKind.i64.wrap U = U := by rw [IntKind.wrap_i64]; omega
    cases f with
    | true =>
      have hw2 : IntKind.i64.wrap (-9223372036854775808 + U) = -9223372036854775808 + U := by rw [IntKind.wrap_i64]; omega
      by_cases h3 : a < -9223372036854775808 + U
      · have hE : Hid (gstep a U.toNat true = (0, false)) := Lib.hid (by unfold gstep; rw [hU, if_neg h2, if_pos rfl, if_pos h3])
        have d3 : decide (a < -9223372036854775808 + U) = true := decide_eq_true h3
        clear hU
        go_enter Tryd.func44, Tryd.ntmps44
        go_wp2
        go_ret2
        rw [hE.out]
        exact ⟨rfl, rfl⟩
      · have hE : Hid (gstep a U.toNat true = (a - U, true)) := Lib.hid (by unfold gstep; rw [hU, if_neg h2, if_pos rfl, if_neg h3])
        have d3 : decide (a < -9223372036854775808 + U) = false := decide_eq_false h3
        have hw3 : IntKind.i64.wrap (a - U) = a - U := by rw [IntKind.wrap_i64]; omega
        clear hU
        go_enter Tryd.func44, Tryd.ntmps44
        go_wp2
        go_ret2
        rw [hE.out]
        exact ⟨rfl, rfl⟩
    | false =>
      have hw2 : IntKind.i64.wrap (9223372036854775807 - U) = 9223372036854775807 - U := by rw [IntKind.wrap_i64]; omega
      by_cases h3 : 9223372036854775807 - U < a
      · have hE : Hid (gstep a U.toNat false = (0, false)) := Lib.hid (by unfold gstep; rw [hU, if_neg h2, if_neg (by decide), if_pos h3])
        have d3 : decide (9223372036854775807 - U < a) = true := decide_eq_true h3
        clear hU
        go_enter Tryd.func44, Tryd.ntmps44
        go_wp2
        go_ret2
        rw [hE.out]
        exact ⟨rfl, rfl⟩
      · have hE : Hid (gstep a U.toNat false = (a + U, true)) := Lib.hid (by unfold gstep; rw [hU, if_neg h2, if_neg (by decide), if_neg h3])
        have d3 : decide (9223372036854775807 - U < a) = false := decide_eq_false h3
        have hw3 : IntKind.i64.wrap (a + U) = a + U := by rw [IntKind.wrap_i64]; omega
        clear hU
        go_enter Tryd.func44, Tryd.ntmps44
        go_wp2
        go_ret2
        rw [hE.out]
        exact ⟨rfl, rfl⟩
end Go.Proofs.YtdcgkjcefbceeaaDoor

/- The contract of layer 9's reference's Put. -/







namespace Go.Proofs.YtdcgkjcefbceeaaDoor

open Go.RowKit

theorem gall_snoc (us : List Nat) (u : Nat) : gall (us ++ [u]) = (gall us && u == (us ++ [u]).headD 0) := by
  unfold gall
  rw [List.all_append]
  cases us with
  | nil => simp
  | cons a t => simp
def TPutRel (l : List Int) (f : Bool) (w : World) (v same i : Value) (wr : World) : Prop :=
  ∃ (j : Nat) (us : List Nat), j + 1 ≤ l.length ∧ i = .int .i64 ((j + 1 : Nat) : Int) ∧ gsizes l f j = some us ∧ same = .bool (gall us) ∧ wr.ownsRow w.heap.size 62 1 v j (us.map uv) ∧ Below w.heap.size w wr
theorem rdiff9_q (a b : Int) (u : Nat) (d o : Bool) (w : World) (ha : inInt a) (hb : inInt b) (h : gdiff a b = (u, d, o)) : Calls Tryd.prog 60 #[.int .i64 a, .int .i64 b] w fun e w' => e = .returned (.tuple #[.int .u64 (u : Int), .bool d, .bool o]) ∧ w' = w := by
  refine (rdiff9_any a b w ha hb).mono ?_
  rintro e w' ⟨h1, h2⟩
  rw [h] at h1
  exact ⟨h1, h2.symm⟩
def Low63 (u : Nat) : Prop := ∃ b : Int, b = 9223372036854775808 ∧ (u : Int) < b
theorem Low63.lt {u : Nat} (h : Low63 u) : (u : Int) < 9223372036854775808 := by obtain ⟨b, rfl, h⟩ := h; exact h
theorem vint_64 {x : Int} {s : Bool} (h : inInt x) : vint x s < 18446744073709551616 := by
  unfold inInt at h
  unfold vint
  split
  · have := vzig_bd h.1 h.2; omega
  · omega
theorem gat_eq {l : List Int} {f : Bool} {j : Nat} {x y : Int} {u : Nat} {d o : Bool} (hj : j + 1 < l.length) (hx : x = l[j]) (hy : y = l[j + 1]) (h : gdiff x y = (u, d, o)) : gat l f j = if o = true ∧ (u = 0 ∨ d = f) then some u else none := by
  unfold gat gone
  rw [List.getD_eq_getElem?_getD, List.getD_eq_getElem?_getD, List.getElem?_eq_getElem (by omega), List.getElem?_eq_getElem hj]
  simp only [Option.getD_some]
  rw [← hx, ← hy, h]
theorem glay_all {l : List Int} {s : Bool} {us : List Nat} {x0 : Int} {n : Nat} (hn : n = l.length) (hx : l.headD 0 = x0) (h : gall us = true) : glay l s us = dheadN 3 0 n ++ vput (vint x0 s) ++ vput (vint (gfirst l us) true) := by
  unfold glay gtail gnum
  rw [if_pos h, if_pos h, hx, ← hn, List.append_nil]
theorem glay_some {l : List Int} {s : Bool} {us : List Nat} {x0 : Int} {n : Nat} (hn : n = l.length) (hx : l.headD 0 = x0) (h : gall us = false) : glay l s us = dheadN 3 (gcode us.tail) n ++ vput (vint x0 s) ++ vput (vint (gfirst l us) true) ++ bpack us.tail (gwide us.tail) := by
  unfold glay gtail gnum
  rw [if_neg (by rw [h]; decide), if_neg (by rw [h]; decide), hx, ← hn]
end Go.Proofs.YtdcgkjcefbceeaaDoor

/- The contract of layer 9's reference's Take. -/



namespace Go.Proofs.YtdcgkjcefbceeaaDoor

open Go.RowKit

theorem vtint_bd {l r : List UInt8} {s : Bool} {x : Int} (h : vtint l s = some (x, r)) : inInt x ∧ r.length ≤ l.length := by
  unfold vtint at h
  cases ht : vtake l with
  | none => rw [ht] at h; cases h
  | some p =>
    obtain ⟨u, q⟩ := p
    rw [ht] at h
    obtain ⟨h1, h2⟩ := vtake_some ht
    have h3 : q.length ≤ l.length := by rw [h1, List.length_append]; omega
    cases s with
    | true =>
      injection h with h
      injection h with h4 h5
      subst h4 h5
      exact ⟨vzag_bd (by omega) (by omega), h3⟩
    | false =>
      dsimp only at h
      split at h
      · cases h
      · injection h with h
        injection h with h4 h5
        subst h4 h5
        exact ⟨⟨by omega, by omega⟩, h3⟩
theorem gwalk_last {s f : Bool} : ∀ {us : List Nat} {x : Int} {ys : List Int}, gwalk s f x us = some ys → inInt x → inInt (glast x ys)
  | [], x, ys, h, hx => by simp [gwalk] at h; subst h; exact hx
  | u :: us, x, ys, h, hx => by
    rw [gwalk] at h
    cases hn : gnext s f x u with
    | none => rw [hn] at h; cases h
    | some y =>
      rw [hn] at h
      dsimp only at h
      cases hw : gwalk s f y us with
      | none => rw [hw] at h; cases h
      | some zs =>
        rw [hw] at h
        simp at h
        subst h
        have hy : inInt y := by
          unfold gnext at hn
          split at hn
          · injection hn with hn; rw [← hn]; exact gstep_bd hx
          · cases hn
        show inInt (glast y zs)
        exact gwalk_last hw hy
theorem gtakeE_head {l : List UInt8} {s : Bool} (h : (dlook l).2.2.2.2 ≠ 0 ∨ (dlook l).1 ≠ 3 ∨ (dlook l).2.2.1 < 2) : gtakeE l s = ([], [], 2) := by unfold gtakeE; rw [if_pos h]; rfl
theorem gtakeE_in {l r : List UInt8} {s : Bool} {c m : Int} (h : dlook l = (3, c, m, r, 0)) (hm : 2 ≤ m) : gtakeE l s = gbody s c m r := by
  unfold gtakeE
  rw [h]
  dsimp only
  rw [if_neg (by omega)]
theorem gbody_none {r : List UInt8} {s : Bool} {c m : Int} (h : vtint r s = none) : gbody s c m r = ([], [], 2) := by unfold gbody; rw [h]; rfl
theorem gbody_none2 {r r1 : List UInt8} {s : Bool} {c m x : Int} (h : vtint r s = some (x, r1)) (h2 : vtint r1 true = none) : gbody s c m r = ([], [], 2) := by unfold gbody; rw [h]; dsimp only; rw [h2]; rfl
theorem gbody_some {r r1 r2 : List UInt8} {s : Bool} {c m x d : Int} {u : Nat} {f o : Bool} (h : vtint r s = some (x, r1)) (h2 : vtint r1 true = some (d, r2)) (hg : gdiff 0 d = (u, f, o)) :
    gbody s c m r = if o = true then gmore s f x u c m r2 else ([], [], 2) := by unfold gbody; rw [h]; dsimp only; rw [h2]; dsimp only; rw [hg]; rfl
theorem gmore_zero {s f : Bool} {x : Int} {u : Nat} {c m : Int} {r : List UInt8} (h : ¬ 0 < c) : gmore s f x u c m r = gend s f x (List.replicate (m - 1).toNat u) r := by unfold gmore; rw [if_neg h]
theorem gmore_bad {s f : Bool} {x : Int} {u : Nat} {c m e : Int} {r q : List UInt8} {us : List Nat} (h : 0 < c) (hu : unpacksAny r (m - 2) (wof c) = (us, q, e)) (he : e ≠ 0) : gmore s f x u c m r = ([], [], 2) := by
  unfold gmore; rw [if_pos h, hu]; dsimp only; rw [if_pos he]; rfl
theorem gmore_good {s f : Bool} {x : Int} {u : Nat} {c m : Int} {r q : List UInt8} {us : List Nat} (h : 0 < c) (hu : unpacksAny r (m - 2) (wof c) = (us, q, 0)) : gmore s f x u c m r = gend s f x (u :: us) q := by
  unfold gmore; rw [if_pos h, hu]; dsimp only; rw [if_neg (by decide)]
theorem unpacksAny_len {l q : List UInt8} {M : Nat} {W : Int} {us : List Nat} (h : unpacksAny l M W = (us, q, 0)) : us.length = M ∧ q.length ≤ l.length := by
  unfold unpacksAny at h
  split at h
  · rw [Int.toNat_natCast] at h
    unfold unpacks at h
    split at h
    · injection h with _ h; injection h with _ h; cases h
    · split at h
      · injection h with h1 h2
        injection h2 with h2 _
        subst h1 h2
        exact ⟨bnums_len _ _ _ _, by rw [List.length_drop]; omega⟩
      · injection h with _ h; injection h with _ h; cases h
  · injection h with _ h; injection h with _ h; cases h
theorem isB_far {w w' : World} {g : Nat} {t : TypeId} {u : Value} {q : List UInt8} {v : Value} (hr : Row w g t [u]) (hu : ∀ b, u ≠ bv b) (h : IsB q v w) (hg : w.grownBy w' (some g)) : IsB q v w' := by
  obtain ⟨A, c, rfl, h2, h3, h4, hl⟩ := h
  refine ⟨A, c, rfl, h2, h3, h4, ?_⟩
  rcases hl with hl | ⟨ad, hA, hlt, hc⟩
  · exact .inl hl
  · cases q with
    | nil => exact .inl rfl
    | cons b q =>
      have hne : ad.block ≠ g := by
        intro e
        have h0 := hc 0 (bv b) rfl
        have e0 : ad.add 0 = ad := by simp [Addr.add]
        rw [e0] at h0
        have hs := World.cell?_spot h0
        obtain ⟨bk, off, spot⟩ := ad
        dsimp only at hs e
        subst hs e
        rw [hr.cell] at h0
        cases off with
        | zero => simp at h0; exact hu b h0
        | succ k => simp at h0
      exact .inr ⟨ad, hA, Nat.lt_of_lt_of_le hlt hg.size, fun j x hx => hg.cell (hc j x hx) (by rw [add_block]; intro e; injection e with e; exact hne e)⟩
def TTakeRel (s f : Bool) (x0 : Int) (us : List Nat) (w : World) (xv out i : Value) (wr : World) : Prop :=
  ∃ (k : Nat) (ys : List Int), k ≤ us.length ∧ xv = .int .i64 (glast x0 ys) ∧ gwalk s f x0 (us.take k) = some ys ∧ i = .int .i64 (k : Int) ∧ wr.ownsRow w.heap.size 3 1 out (k + 1) ((x0 :: ys).map iv) ∧ Below w.heap.size w wr
end Go.Proofs.YtdcgkjcefbceeaaDoor

/- delta's own contracts: between, step, isCount, Diff, Step; math/bits.Mul laid. -/











namespace Go.Proofs.YtdcgkjcefbceeaaDoor

open Go.RowKit

/-- A difference as the program holds it. -/
def dpair (p : Nat × Bool × Bool) : Nat × Bool := (p.1, p.2.1)
def dc (d : Nat × Bool) : List Value := [.int .u64 (d.1 : Int), .bool d.2]
theorem dc_len (d : Nat × Bool) : (dc d).length = 2 := rfl
theorem dc_one (d : Nat × Bool) : ∀ u ∈ dc d, u.oneCell' = true := by
  intro u hu
  unfold dc at hu
  simp at hu
  rcases hu with rfl | rfl <;> rfl
theorem dcs_one (l : List (Nat × Bool)) : ∀ u ∈ l.flatMap dc, u.oneCell' = true := by
  intro u hu
  obtain ⟨x, _, hx⟩ := List.mem_flatMap.1 hu
  exact dc_one x u hx
def dv (d : Nat × Bool) : Value := .agg (dc d).toArray
theorem Tryd.infoD : (Tryd.prog.info? 95).map (fun i => (i.zero, i.size, i.bytes)) = some (some (dv (0, false)), 2, 16) := by kernel_rfl
theorem sizeD : (Tryd.prog.info? 95).map (·.size) = some 2 := by
  obtain ⟨i0, hi, hz0, hz1, hz2⟩ := info_parts Tryd.infoD
  rw [hi, Option.map_some, hz1]
/-- The cells of a difference in a slice. -/
theorem cells2 {w : World} {ad : Addr} {k : Nat} {x : Nat × Bool} (h : ∀ i, i < 2 → w.cell? (ad.add (k * 2 + i)) = (dc x)[i]?) :
    w.cell? (ad.add (k * 2)) = some (.int .u64 (x.1 : Int)) ∧ w.cell? ⟨(ad.add (k * 2)).block, (ad.add (k * 2)).off + 1, none⟩ = some (.bool x.2) := by
  refine ⟨h 0 (by omega), ?_⟩
  have h1 := h 1 (by omega); rw [← add_add] at h1; exact h1
theorem wrap_neg {S d : Int} (hs : IntKind.u64.wrap (-S) = d) : IntKind.u64.wrap (0 - S) = d := by rw [← hs]; congr 1; omega
/-- What between answers. -/
def RetBt (p : Nat × Bool × Bool) (e : Ending) : Prop := e = .returned (.tuple #[dv (dpair p), .bool p.2.2])
theorem ret_pair {fn : Func} {p u : Tmp} (h : fn.results = #[.cell p 95, .tmp u]) (tmps : Array Value) (w : World) (g : Nat) (d : Nat × Bool) (b : Bool)
    (hp : tmps.getD p undef = .pointer (some ⟨g, 0, none⟩)) (hr : Row w g 95 (dc d)) (hu : tmps.getD u undef = .bool b) : (results fn tmps).run Tryd.prog w = .ok (.tuple #[dv d, .bool b]) w :=
  results_row_tmp h tmps w g 95 (dc d).toArray (0, 0) _ _ hp hr Tryd.underlying95 rfl sizeD hu
theorem row_under (w : World) (cs : List Value) (t : TypeId) (o : Obj) : Row ((w.alloc (.cells cs.toArray t)).alloc o) w.heap.size t cs := Row.alloc (heap_alloc_new w _) o
theorem below_two (w : World) (o o' : Obj) : Below w.heap.size w ((w.alloc o).alloc o') := ((Below.refl _ _).alloc (Nat.le_refl _) _).alloc (by simp) _
set_option maxHeartbeats 2000000 in
set_option maxRecDepth 100000 in
theorem between_any (a b : Int) (w : World) (ha : inInt a) (hb : inInt b) : Calls Tryd.prog 67 #[.int .i64 a, .int .i64 b] w fun e w' => RetBt (gdiff a b) e ∧ Below w.heap.size w w' := by
  unfold inInt at ha hb
  obtain ⟨S, hS⟩ : ∃ S : Nat, (S : Int) = IntKind.u64.wrap (b - a) := ⟨(IntKind.u64.wrap (b - a)).toNat, by rw [IntKind.wrap_u64]; omega⟩
  have hS2 : IntKind.u64.wrap (IntKind.u64.wrap b - IntKind.u64.wrap a) = (S : Int) := by rw [hS, IntKind.wrap_u64, IntKind.wrap_u64, IntKind.wrap_u64, IntKind.wrap_u64]; omega
  rw [IntKind.wrap_u64] at hS
  by_cases h : b < a
  · obtain ⟨D, hD⟩ : ∃ D : Nat, (D : Int) = a - b := ⟨(a - b).toNat, by omega⟩
    have hn : IntKind.u64.wrap (-(S : Int)) = (D : Int) := by rw [IntKind.wrap_u64]; omega
    have d1 : decide (b < a) = true := decide_eq_true h
    by_cases h2 : 9223372036854775808 ≤ (D : Int)
    · have hE : Hid (gdiff a b = (0, false, false)) := Lib.hid (by unfold gdiff; rw [if_pos h, if_pos (by omega)])
      have d2 : decide ((9223372036854775807 : Int) < (D : Int)) = true := decide_eq_true (by omega)
      clear hD ha hb hS h2
      go_enter Tryd.func67, Tryd.ntmps67
      go_wp2
      refine bodyPost_ret (ret_pair rfl _ _ _ (0, false) false rfl (row_under _ _ _ _) rfl) rfl ?_
      rw [hE.out]
      exact ⟨rfl, below_two _ _ _⟩
    · have hE : Hid (gdiff a b = (D, true, true)) := Lib.hid (by unfold gdiff; rw [if_pos h, if_neg (by omega)]; congr 1; omega)
      have d2 : decide ((9223372036854775807 : Int) < (D : Int)) = false := decide_eq_false (by omega)
      clear hD ha hb hS h2
      go_enter Tryd.func67, Tryd.ntmps67
      go_wp2
      refine bodyPost_ret (ret_pair rfl _ _ _ (D, true) true rfl (row_under _ _ _ _) rfl) rfl ?_
      rw [hE.out]
      exact ⟨rfl, below_two _ _ _⟩
  · have d1 : decide (b < a) = false := decide_eq_false h
    have hSD : (S : Int) = b - a := by omega
    by_cases h2 : 9223372036854775808 ≤ (S : Int)
    · have hE : Hid (gdiff a b = (0, false, false)) := Lib.hid (by unfold gdiff; rw [if_neg h, if_pos (by omega)])
      have d2 : decide ((9223372036854775807 : Int) < (S : Int)) = true := decide_eq_true (by omega)
      clear ha hb hS h2 hSD
      go_enter Tryd.func67, Tryd.ntmps67
      go_wp2
      refine bodyPost_ret (ret_pair rfl _ _ _ (0, false) false rfl (row_under _ _ _ _) rfl) rfl ?_
      rw [hE.out]
      exact ⟨rfl, below_two _ _ _⟩
    · have hE : Hid (gdiff a b = (S, false, true)) := Lib.hid (by unfold gdiff; rw [if_neg h, if_neg (by omega)]; congr 1; omega)
      have d2 : decide ((9223372036854775807 : Int) < (S : Int)) = false := decide_eq_false (by omega)
      clear ha hb hS h2 hSD
      go_enter Tryd.func67, Tryd.ntmps67
      go_wp2
      refine bodyPost_ret (ret_pair rfl _ _ _ (S, false) true rfl (row_under _ _ _ _) rfl) rfl ?_
      rw [hE.out]
      exact ⟨rfl, below_two _ _ _⟩
set_option maxHeartbeats 2000000 in
set_option maxRecDepth 100000 in
theorem tdiff_any (a b : Int) (w : World) (ha : inInt a) (hb : inInt b) : Calls Tryd.prog 47 #[.int .i64 a, .int .i64 b] w fun e w' => RetD (gdiff a b) e ∧ Below w.heap.size w w' := by
  have HB := Lib.hid (between_any a b w ha hb)
  generalize gdiff a b = p at HB ⊢
  obtain ⟨U, f, ok⟩ := p
  clear ha hb
  go_enter Tryd.func47, Tryd.ntmps47
  go_wp2_with fail
  refine HB.out.mono ?_
  rintro e w1 ⟨rfl, hb1⟩
  unfold dpair dv dc
  dsimp only
  go_wp2
  go_quiet (fail)
  go_wp2
  refine bodyPost_ret (results_tmp3 rfl _ _ _) rfl ?_
  exact ⟨rfl, (hb1.alloc hb1.size _).trans ⟨rfl, rfl, rfl, Nat.le_refl _, fun _ _ => rfl⟩⟩
set_option maxHeartbeats 2000000 in
set_option maxRecDepth 100000 in
theorem step_any (a : Int) (U : Nat) (f : Bool) (w : World) (ha : inInt a) (h1 : (U : Int) < 18446744073709551616) : Calls Tryd.prog 74 #[.int .i64 a, dv (U, f)] w fun e w' => RetG (gstep a U f) e ∧ Below w.heap.size w w' := by
  unfold inInt at ha
  by_cases h2 : 9223372036854775808 ≤ (U : Int)
  · have hE : Hid (gstep a U f = (0, false)) := Lib.hid (by unfold gstep; rw [if_pos h2])
    have d2 : decide ((9223372036854775807 : Int) < (U : Int)) = true := decide_eq_true (by omega)
    clear h2 h1
    unfold dv dc
    dsimp only
    go_enter Tryd.func74, Tryd.ntmps74
    go_wp2
    go_ret2
    rw [hE.out]
    exact ⟨rfl, (Below.refl _ _).alloc (Nat.le_refl _) _⟩
  · have d2 : decide ((9223372036854775807 : Int) < (U : Int)) = false := decide_eq_false (by omega)
    have hw1 : IntKind.i64.wrap (U : Int) = (U : Int) := by rw [IntKind.wrap_i64]; omega
    cases f with
    | true =>
      obtain ⟨M, hM⟩ : ∃ M, M = -(U : Int) := ⟨_, rfl⟩
      have hw2 : IntKind.i64.wrap (-(U : Int)) = M := by rw [IntKind.wrap_i64]; omega
      obtain ⟨b, hb⟩ : ∃ b, b = IntKind.i64.wrap (a + M) := ⟨_, rfl⟩
      have hw3 : IntKind.i64.wrap (a + M) = b := hb.symm
      rw [IntKind.wrap_i64] at hb
      by_cases h3 : a < -9223372036854775808 + (U : Int)
      · have hE : Hid (gstep a U true = (0, false)) := Lib.hid (by unfold gstep; rw [if_neg h2, if_pos rfl, if_pos h3])
        have d3 : decide (b < a) = false := decide_eq_false (by omega)
        have d4 : decide (M < 0) = true := decide_eq_true (by omega)
        clear h2 h1 hM hb h3 ha
        unfold dv dc
        dsimp only
        go_enter Tryd.func74, Tryd.ntmps74
        go_wp2
        go_ret2
        rw [hE.out]
        exact ⟨rfl, (Below.refl _ _).alloc (Nat.le_refl _) _⟩
      · have hE : Hid (gstep a U true = (b, true)) := Lib.hid (by unfold gstep; rw [if_neg h2, if_pos rfl, if_neg h3]; congr 1; omega)
        have d3 : decide (b < a) = decide (M < 0) := by
          by_cases h4 : M < 0
          · rw [decide_eq_true h4]; exact decide_eq_true (by omega)
          · rw [decide_eq_false h4]; exact decide_eq_false (by omega)
        clear h2 h1 hM hb h3 ha
        obtain ⟨d, hd⟩ : ∃ d, d = decide (M < 0) := ⟨_, rfl⟩
        rw [← hd] at d3
        have d4 := hd.symm
        clear hd
        unfold dv dc
        dsimp only
        cases d
        · go_enter Tryd.func74, Tryd.ntmps74
          go_wp2
          go_ret2
          rw [hE.out]
          exact ⟨rfl, (Below.refl _ _).alloc (Nat.le_refl _) _⟩
        · go_enter Tryd.func74, Tryd.ntmps74
          go_wp2
          go_ret2
          rw [hE.out]
          exact ⟨rfl, (Below.refl _ _).alloc (Nat.le_refl _) _⟩
    | false =>
      obtain ⟨b, hb⟩ : ∃ b, b = IntKind.i64.wrap (a + (U : Int)) := ⟨_, rfl⟩
      have hw3 : IntKind.i64.wrap (a + (U : Int)) = b := hb.symm
      rw [IntKind.wrap_i64] at hb
      have d4 : decide ((U : Int) < 0) = false := decide_eq_false (by omega)
      by_cases h3 : 9223372036854775807 - (U : Int) < a
      · have hE : Hid (gstep a U false = (0, false)) := Lib.hid (by unfold gstep; rw [if_neg h2, if_neg (by decide), if_pos h3])
        have d3 : decide (b < a) = true := decide_eq_true (by omega)
        clear h2 h1 hb h3 ha
        unfold dv dc
        dsimp only
        go_enter Tryd.func74, Tryd.ntmps74
        go_wp2
        go_ret2
        rw [hE.out]
        exact ⟨rfl, (Below.refl _ _).alloc (Nat.le_refl _) _⟩
      · have hE : Hid (gstep a U false = (b, true)) := Lib.hid (by unfold gstep; rw [if_neg h2, if_neg (by decide), if_neg h3]; congr 1; omega)
        have d3 : decide (b < a) = false := decide_eq_false (by omega)
        clear h2 h1 hb h3 ha
        unfold dv dc
        dsimp only
        go_enter Tryd.func74, Tryd.ntmps74
        go_wp2
        go_ret2
        rw [hE.out]
        exact ⟨rfl, (Below.refl _ _).alloc (Nat.le_refl _) _⟩
theorem tstep_any (a U : Int) (f : Bool) (w : World) (ha : inInt a) (h0 : 0 ≤ U) (h1 : U < 18446744073709551616) : Calls Tryd.prog 64 #[.int .i64 a, .int .u64 U, .bool f] w fun e w' => RetG (gstep a U.toNat f) e ∧ Below w.heap.size w w' := by
  obtain ⟨N, hN⟩ : ∃ N : Nat, U = (N : Int) := ⟨U.toNat, by omega⟩
  subst hN
  have HS := Lib.hid (step_any a N f w ha h1)
  clear ha h0 h1
  rw [Int.toNat_natCast]
  unfold dv dc at HS
  dsimp only at HS
  go_enter Tryd.func64, Tryd.ntmps64
  go_wp2_with fail
  refine HS.out.mono ?_
  rintro e w1 ⟨rfl, hb1⟩
  go_wp2
  go_ret2
  exact ⟨rfl, hb1⟩
/-- The least of some numbers. -/
def lmin : List Int → Int
  | [] => 0
  | x :: xs => xs.foldl min x
theorem lmin_snoc {l : List Int} (hl : l ≠ []) (x : Int) : lmin (l ++ [x]) = min (lmin l) x := by
  cases l with
  | nil => exact absurd rfl hl
  | cons y ys => simp [lmin, List.foldl_append]
theorem lmin_neg {l : List Int} (hl : l ≠ []) : lmin l < 0 ↔ ∃ x ∈ l, x < 0 := by
  cases l with
  | nil => exact absurd rfl hl
  | cons y ys =>
    show ys.foldl min y < 0 ↔ _
    induction ys generalizing y with
    | nil => simp
    | cons z zs ih =>
      rw [List.foldl_cons, ih (min y z) (by simp)]
      simp only [List.mem_cons, exists_eq_or_imp]
      constructor
      · rintro (h | h)
        · rcases (by omega : y < 0 ∨ z < 0) with h | h
          · exact .inl h
          · exact .inr (.inl h)
        · exact .inr (.inr h)
      · rintro (h | h | h)
        · exact .inl (by omega)
        · exact .inl (by omega)
        · exact .inr h
def MinRel (l : List Int) (m i : Value) : Prop := ∃ (k : Nat) (x : Int), 1 ≤ k ∧ k ≤ l.length ∧ i = .int .i64 (k : Int) ∧ m = .int .i64 x ∧ x = lmin (l.take k)
set_option maxRecDepth 100000 in
theorem min_any (l : List Int) (v : Value) (w : World) (hv : IsV iv l v w) (h1 : 1 ≤ l.length) (hb : l.length ≤ 1000000) :
    Calls Tryd.prog 17 #[v] w fun e w' => e = .returned (.int .i64 (lmin l)) ∧ w = w' := by
  obtain ⟨A, n, c, rfl⟩ := hv.shape
  have HN := Lib.hid hv.len
  have HV := Lib.hid hv
  have hn : 1 ≤ n := by have := HN.out; omega
  have hn6 : n ≤ 1000000 := by have := HN.out; omega
  obtain ⟨ad, rfl, _, h0⟩ := hv.at (k := 0) h1
  obtain ⟨x0, hx0⟩ : ∃ x, x = l[0] := ⟨_, rfl⟩
  have h0' : w.cell? ad = some (.int .i64 l[0]) := by have := h0; simp [Addr.add, iv] at this; exact this
  have HS := Lib.hid (show MinRel l (.int .i64 l[0]) (.int .i64 1) from ⟨1, _, Nat.le_refl _, h1, rfl, rfl, by cases l with | nil => simp at h1 | cons a t => simp [lmin]⟩)
  rw [← hx0] at h0' HS
  clear hv h1 hb h0 hx0
  go_enter Tryd.func17, Tryd.ntmps17
  go_wp2
  go_loop [3, 4] (MinRel l) (fun _ i => n - (intOf i).toNat)
  case atStart => exact HS.out
  case round =>
    obtain ⟨k, x, hk1, hk2, rfl, rfl, hx⟩ := hrel
    have HX := Lib.hid hx
    have hkn : k ≤ n := by have := HN.out; omega
    clear hx
    by_cases hlt : k < n
    · have hkl : k < l.length := by have := HN.out; omega
      have hlti : (k : Int) < (n : Int) := by omega
      obtain ⟨ad', had, _, hc⟩ := HV.out.at hkl
      injection had with had
      subst had
      obtain ⟨y, hy⟩ : ∃ y, y = l[k] := ⟨_, rfl⟩
      rw [← hy] at hc
      unfold iv at hc
      obtain ⟨z, hz⟩ : ∃ z, z = min x y := ⟨_, rfl⟩
      have hmin : ∀ (ts : Array TypeId) (t : TypeId) (W : World), (Builtin.min_ ts t #[.int .i64 x, .int .i64 y]).run Tryd.prog W = .ok (.int .i64 z) W := fun ts t W => by
        rw [run_min_int2]
        congr 2
        rw [hz]
        split <;> omega
      have HR := Lib.hid (show MinRel l (.int .i64 z) (.int .i64 ((k + 1 : Nat) : Int)) from ⟨k + 1, _, by omega, hkl, rfl, rfl, by
        rw [List.take_succ_eq_append_getElem hkl, lmin_snoc (by intro h0; have h1 := congrArg List.length h0; rw [List.length_take, List.length_nil] at h1; omega), ← HX.out, ← hy, hz]⟩)
      clear hy hz
      go_wp2
      go_round
      case rel => exact HR.out
      case measure => simp [intOf]; omega
    · obtain rfl : k = n := by omega
      go_wp2
      go_ret
      refine ⟨?_, rfl⟩
      rw [HX.out, List.take_of_length_le (by have := HN.out; omega)]
      rfl
/-- Differences that a call answers, in a row of its own. -/
def diffAt (l : List Int) (i : Nat) : Nat × Bool × Bool := gdiff (l.getD i 0) (l.getD (i + 1) 0)
def AreRel (l : List (Nat × Bool)) (w : World) (i : Value) (wr : World) : Prop := ∃ k : Nat, k ≤ l.length ∧ i = .int .i64 (k : Int) ∧ (∀ j, j < k → l[j]? = l[0]?) ∧ Below w.heap.size w wr
/-- Is each the first one? -/
def dsame (l : List (Nat × Bool)) : Bool := l.all fun d => d == l.headD (0, false)
theorem dsame_yes {l : List (Nat × Bool)} (h : ∀ j, j < l.length → l[j]? = l[0]?) : dsame l = true := by
  unfold dsame
  rw [List.all_eq_true]
  intro d hd
  obtain ⟨j, hj, rfl⟩ := List.getElem_of_mem hd
  have h1 := h j hj
  rw [List.getElem?_eq_getElem hj] at h1
  cases l with
  | nil => simp at hj
  | cons a t => simp at h1; simp [h1]
theorem dsame_no {l : List (Nat × Bool)} {j : Nat} (hj : j < l.length) (h : l[j]? ≠ l[0]?) : dsame l = false := by
  unfold dsame
  rw [List.all_eq_false]
  refine ⟨l[j], List.getElem_mem hj, ?_⟩
  rw [List.getElem?_eq_getElem hj] at h
  cases l with
  | nil => simp at hj
  | cons a t => simp at h; simpa using h
theorem eqD (a b : Nat × Bool) (w : World) : (Op.equalIn 10000 95 (dv a) (dv b)).run Tryd.prog w = .ok (a == b) w := by
  have hS : Tryd.prog.underlying 95 = some (.struct (Tryd.prog.fieldsOf 95)) := by kernel_rfl
  have hp : Tryd.prog.stoodInHeld 95 = false := by kernel_rfl
  obtain ⟨au, af⟩ := a
  obtain ⟨bu, bf⟩ := b
  unfold dv dc
  have u1 := Tryd.underlying62
  have u2 := Tryd.underlying4
  have s1 := Tryd.sizeOf62
  have s2 := Tryd.sizeOf4
  have g1 := Tryd.isAgg62
  have g2 := Tryd.isAgg4
  rw [show (10000 : Nat) = 9999 + 1 from rfl, run_equalIn_agg w 9999 95 _ _ hS hp]
  simp only [Program.fieldsOf, Tryd.underlying95]
  go_simp
  by_cases h1 : au = bu
  · subst h1
    rw [if_pos rfl]
    cases af <;> cases bf <;> simp
  · have h3 : ¬ (au : Int) = (bu : Int) := by omega
    rw [if_neg h3]
    have h4 : ((au, af) == (bu, bf)) = false := by
      rw [beq_eq_false_iff_ne]
      intro h
      injection h with h _
      exact h1 h
    rw [h4]
theorem gives_neqD {o : Oper} {ρ : Operand → Value} {w : World} {R : Value → World → Prop} {x y : Operand} {a b : Nat × Bool} (ho : o.op = .binOp .neq 95 x y 95) (hx : ρ x = dv a) (hy : ρ y = dv b)
    (hR : R (.bool (!(a == b))) w) : Gives Tryd.prog o ρ w R := by
  refine gives_of (v := .bool (!(a == b))) (w' := w) ?_ hR
  have hg := run_eqGuard_agg (P := Tryd.prog) w .neq 95 x y (dc a).toArray (dc b).toArray (by kernel_rfl)
  have hq := run_neq_struct (P := Tryd.prog) w 95 (dc a).toArray (dc b).toArray
  have he := eqD a b w
  unfold dv at he
  rw [he] at hq
  unfold dv at hx hy
  simp [execOp, ho, hx, hy, hg, hq]
end Go.Proofs.YtdcgkjcefbceeaaDoor
