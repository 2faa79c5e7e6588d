
/- Values of columns (layer 12), as plain mathematics. -/

import Derived.Sort.Walk0

import Derived.Laws.Strings

import Derived.WalkKit

namespace Go.Proofs.Ytocodcceimeiiaa

/-- A value: nothing, a number, a text. -/
structure CV where
  null : Bool
  n : Int
  s : ByteArray
def cv (v : CV) : Value := .agg #[.bool v.null, .int .i64 v.n, .string v.s]
def CV.inInt (v : CV) : Prop := -9223372036854775808 ≤ v.n ∧ v.n ≤ 9223372036854775807
/-- One text stands ahead of another. -/
def sless (a b : ByteArray) : Bool := Op.bytesLess a.toList b.toList
theorem sless_iff (a b : ByteArray) : sless a b = true ↔ a.data.toList < b.data.toList := by
  unfold sless
  rw [bytesLess_eq, ByteArray.toList_eq, ByteArray.toList_eq, decide_eq_true_iff]
theorem sless_not (a : ByteArray) : sless a a = false := by
  rw [← Bool.not_eq_true, sless_iff]
  exact List.lt_irrefl _
theorem sless_trans {a b c : ByteArray} (h1 : sless a b = true) (h2 : sless b c = true) : sless a c = true := by
  rw [sless_iff] at *
  exact List.lt_trans h1 h2
theorem bytes_ext {a b : ByteArray} (h : a.data.toList = b.data.toList) : a = b := by
  cases a; cases b
  congr 1
  exact Array.toList_inj.1 h
theorem sless_total {a b : ByteArray} (h : a ≠ b) : sless a b = true ∨ sless b a = true := by
  rw [sless_iff, sless_iff]
  by_cases h1 : a.data.toList < b.data.toList
  · exact .inl h1
  · refine .inr ?_
    have h2 : b.data.toList ≤ a.data.toList := List.not_lt.1 h1
    rcases List.le_iff_lt_or_eq.1 h2 with h3 | h3
    · exact h3
    · exact absurd (bytes_ext h3).symm h
theorem sless_asymm {a b : ByteArray} (h : sless a b = true) : sless b a = false := by
  rw [← Bool.not_eq_true]
  intro h2
  have := sless_trans h h2
  rw [sless_not] at this
  cases this
theorem sless_empty (a : ByteArray) : sless a ⟨#[]⟩ = false := by
  rw [← Bool.not_eq_true, sless_iff]
  exact List.not_lt_nil _
/-- How two values are compared. -/
def kcmp (a b : CV) : Int :=
  if a.null ≠ b.null then (if a.null = true then -1 else 1)
  else if a.n ≠ b.n then (if a.n < b.n then -1 else 1)
  else if a.s ≠ b.s then (if sless a.s b.s = true then -1 else 1)
  else 0
theorem kcmp_bd (a b : CV) : kcmp a b = -1 ∨ kcmp a b = 0 ∨ kcmp a b = 1 := by
  unfold kcmp
  split
  · split <;> simp
  · split
    · split <;> simp
    · split
      · split <;> simp
      · simp
theorem CV.ext' {a b : CV} (h1 : a.null = b.null) (h2 : a.n = b.n) (h3 : a.s = b.s) : a = b := by cases a; cases b; simp_all
theorem kcmp_self (a : CV) : kcmp a a = 0 := by unfold kcmp; simp
theorem kcmp_zero {a b : CV} : kcmp a b = 0 ↔ a = b := by
  constructor
  · intro h
    unfold kcmp at h
    split at h
    · split at h <;> simp at h
    · rename_i h1
      split at h
      · split at h <;> simp at h
      · rename_i h2
        split at h
        · split at h <;> simp at h
        · rename_i h3
          exact CV.ext' (Decidable.not_not.1 h1) (Decidable.not_not.1 h2) (Decidable.not_not.1 h3)
  · intro h; rw [h]; exact kcmp_self b
theorem kcmp_null {a b : CV} (h : a.null ≠ b.null) : kcmp a b = if a.null = true then -1 else 1 := by unfold kcmp; rw [if_pos h]
theorem kcmp_n {a b : CV} (h : a.null = b.null) (h2 : a.n ≠ b.n) : kcmp a b = if a.n < b.n then -1 else 1 := by unfold kcmp; rw [if_neg fun h3 => h3 h, if_pos h2]
theorem kcmp_s {a b : CV} (h : a.null = b.null) (h2 : a.n = b.n) (h3 : a.s ≠ b.s) : kcmp a b = if sless a.s b.s = true then -1 else 1 := by unfold kcmp; rw [if_neg fun h4 => h4 h, if_neg fun h4 => h4 h2, if_pos h3]
theorem kcmp_neg (a b : CV) : kcmp a b = -kcmp b a := by
  by_cases h1 : a.null = b.null
  · by_cases h2 : a.n = b.n
    · by_cases h3 : a.s = b.s
      · rw [CV.ext' h1 h2 h3, kcmp_self]; rfl
      · rw [kcmp_s h1 h2 h3, kcmp_s h1.symm h2.symm fun h => h3 h.symm]
        rcases sless_total h3 with h4 | h4
        · rw [if_pos h4, sless_asymm h4]; rfl
        · rw [if_pos h4, sless_asymm h4]; rfl
    · rw [kcmp_n h1 h2, kcmp_n h1.symm fun h => h2 h.symm]
      by_cases h4 : a.n < b.n
      · rw [if_pos h4, if_neg (by omega)]
      · rw [if_neg h4, if_pos (by omega)]; rfl
  · rw [kcmp_null h1, kcmp_null fun h => h1 h.symm]
    cases ha : a.null <;> cases hb : b.null <;> simp_all
theorem kcmp_trans {a b c : CV} (h1 : kcmp a b ≤ 0) (h2 : kcmp b c ≤ 0) : kcmp a c ≤ 0 := by
  by_cases e1 : a.null = b.null
  · by_cases e2 : b.null = c.null
    · by_cases f1 : a.n = b.n
      · by_cases f2 : b.n = c.n
        · by_cases g1 : a.s = b.s
          · rw [CV.ext' e1 f1 g1]; exact h2
          · by_cases g2 : b.s = c.s
            · rw [← CV.ext' e2 f2 g2]; exact h1
            · rw [kcmp_s e1 f1 g1] at h1
              rw [kcmp_s e2 f2 g2] at h2
              have k1 : sless a.s b.s = true := by
                by_cases h : sless a.s b.s = true
                · exact h
                · rw [if_neg h] at h1; omega
              have k2 : sless b.s c.s = true := by
                by_cases h : sless b.s c.s = true
                · exact h
                · rw [if_neg h] at h2; omega
              have k3 := sless_trans k1 k2
              have g3 : a.s ≠ c.s := fun h => by rw [h, sless_not] at k3; cases k3
              rw [kcmp_s (e1.trans e2) (f1.trans f2) g3, if_pos k3]
              omega
        · rw [kcmp_n e2 f2] at h2
          rw [kcmp_n (e1.trans e2) (by rw [f1]; exact f2), f1]
          exact h2
      · rw [kcmp_n e1 f1] at h1
        have k1 : a.n < b.n := by
          by_cases h : a.n < b.n
          · exact h
          · rw [if_neg h] at h1; omega
        by_cases f2 : b.n = c.n
        · rw [kcmp_n (e1.trans e2) (by omega), if_pos (by omega)]; omega
        · rw [kcmp_n e2 f2] at h2
          have k2 : b.n < c.n := by
            by_cases h : b.n < c.n
            · exact h
            · rw [if_neg h] at h2; omega
          rw [kcmp_n (e1.trans e2) (by omega), if_pos (by omega)]; omega
    · rw [kcmp_null e2] at h2
      rw [kcmp_null (by rw [e1]; exact e2), e1]
      exact h2
  · rw [kcmp_null e1] at h1
    have k1 : a.null = true := by
      by_cases h : a.null = true
      · exact h
      · rw [if_neg h] at h1; omega
    by_cases e2 : b.null = c.null
    · rw [kcmp_null (by rw [← e2]; exact e1), if_pos k1]; omega
    · rw [kcmp_null e2] at h2
      have k2 : b.null = true := by
        by_cases h : b.null = true
        · exact h
        · rw [if_neg h] at h2; omega
      exact absurd (k1.trans k2.symm) e1
theorem kcmp_least (a : CV) (h : a.inInt) : kcmp ⟨true, -9223372036854775808, ⟨#[]⟩⟩ a ≤ 0 := by
  unfold CV.inInt at h
  by_cases e : true = a.null
  · by_cases f : (-9223372036854775808 : Int) = a.n
    · by_cases g : (⟨#[]⟩ : ByteArray) = a.s
      · rw [kcmp_zero.2 (CV.ext' e f g)]; omega
      · rw [kcmp_s e f g]
        dsimp only
        rcases sless_total g with k | k
        · rw [if_pos k]; omega
        · rw [sless_empty] at k; cases k
    · rw [kcmp_n e f]
      dsimp only
      rw [if_pos (by omega)]; omega
  · rw [kcmp_null e, if_pos rfl]; omega
end Go.Proofs.Ytocodcceimeiiaa
