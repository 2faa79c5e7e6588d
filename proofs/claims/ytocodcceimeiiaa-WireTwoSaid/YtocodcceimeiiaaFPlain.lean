
/- Fields with tags (layer 19), as plain mathematics. -/

import Derived.Test.YtocodcceimeiiaaPlain

namespace Go.Proofs.Ytocodcceimeiiaa

/-- A field: a number, or bytes. -/
structure WF where
  tag : Int
  bytes : Bool
  n : Nat
  b : List UInt8
def fput1 (f : WF) : List UInt8 := if f.bytes = true then vput (8 * f.tag + 2).toNat ++ (vput f.b.length ++ f.b) else vput (8 * f.tag).toNat ++ vput f.n
def ftag (f : WF) : Prop := 1 ≤ f.tag ∧ f.tag ≤ 100
instance (f : WF) : Decidable (ftag f) := by unfold ftag; infer_instance
/-- What Put answers. -/
def fputE (l : List WF) : Option (List UInt8) := if ∀ f ∈ l, ftag f then some (l.flatMap fput1) else none
/-- The first field. -/
def ftake1 (b : List UInt8) : Option (WF × List UInt8) :=
  match vtake b with
  | none => none
  | some (k, more) => if k < 8 ∨ 802 < k ∨ (k % 8 ≠ 0 ∧ k % 8 ≠ 2) then none else
    match vtake more with
    | none => none
    | some (n, behind) => if k % 8 = 2 then (if behind.length < n then none else some (⟨(k / 8 : Nat), true, 0, behind.take n⟩, behind.drop n)) else some (⟨(k / 8 : Nat), false, n, []⟩, behind)
def ftakeF : Nat → List UInt8 → Option (List WF)
  | _, [] => some []
  | 0, _ :: _ => none
  | f + 1, c :: b => match ftake1 (c :: b) with
    | none => none
    | some (x, r) => (ftakeF f r).map (x :: ·)
/-- What Take answers. -/
def ftakeE (b : List UInt8) : Option (List WF) := ftakeF b.length b
/-- A field that may be: a number has no bytes, bytes have no number. -/
structure FOk (f : WF) : Prop where
  tag : ftag f
  n : f.n < 18446744073709551616
  len : f.b.length < 18446744073709551616
  num : f.bytes = false → f.b = []
  byt : f.bytes = true → f.n = 0
theorem vtake_len {l : List UInt8} {x : Nat} {r : List UInt8} (h : vtake l = some (x, r)) : r.length < l.length := by
  obtain ⟨e, _⟩ := vtake_some h
  rw [e, List.length_append]
  have := vput_len_pos x
  omega
theorem ftake1_len {b : List UInt8} {x : WF} {r : List UInt8} (h : ftake1 b = some (x, r)) : r.length < b.length := by
  unfold ftake1 at h
  split at h
  · cases h
  · rename_i k more h1
    have l1 := vtake_len h1
    split at h
    · cases h
    · split at h
      · cases h
      · rename_i n behind h2
        have l2 := vtake_len h2
        split at h
        · split at h
          · cases h
          · injection h with h
            injection h with _ h
            rw [← h, List.length_drop]
            omega
        · injection h with h
          injection h with _ h
          rw [← h]
          omega
theorem ftakeF_any : ∀ (f g : Nat) (b : List UInt8), b.length ≤ f → b.length ≤ g → ftakeF f b = ftakeF g b
  | _, _, [], _, _ => by unfold ftakeF; rfl
  | 0, _, _ :: _, h, _ => by simp at h
  | _ + 1, 0, _ :: _, _, h => by simp at h
  | f + 1, g + 1, c :: b, h1, h2 => by
    rw [ftakeF, ftakeF]
    cases h : ftake1 (c :: b) with
    | none => rfl
    | some p =>
      obtain ⟨x, r⟩ := p
      have := ftake1_len h
      rw [List.length_cons] at h1 h2 this
      dsimp only
      rw [ftakeF_any f g r (by omega) (by omega)]
theorem ftakeE_nil : ftakeE [] = some [] := rfl
theorem ftakeE_some {b : List UInt8} {x : WF} {r : List UInt8} (h : ftake1 b = some (x, r)) : ftakeE b = (ftakeE r).map (x :: ·) := by
  have hl := ftake1_len h
  cases b with
  | nil => simp at hl
  | cons c b =>
    unfold ftakeE
    rw [List.length_cons, ftakeF, h]
    dsimp only
    rw [List.length_cons] at hl
    rw [ftakeF_any b.length r.length r (by omega) (Nat.le_refl _)]
theorem ftakeE_none {b : List UInt8} (h : ftake1 b = none) (hb : b ≠ []) : ftakeE b = none := by
  cases b with
  | nil => exact absurd rfl hb
  | cons c b => unfold ftakeE; rw [List.length_cons, ftakeF, h]
theorem fput1_num {f : WF} (h : f.bytes = false) : fput1 f = vput (8 * f.tag).toNat ++ vput f.n := by unfold fput1; rw [h]; rfl
theorem fput1_byt {f : WF} (h : f.bytes = true) : fput1 f = vput (8 * f.tag + 2).toNat ++ (vput f.b.length ++ f.b) := by unfold fput1; rw [h]; rfl
/-- What was put is taken. -/
theorem ftake1_put {f : WF} (h : FOk f) (r : List UInt8) : ftake1 (fput1 f ++ r) = some (f, r) := by
  obtain ⟨tag, bytes, n, b⟩ := f
  obtain ⟨⟨t1, t2⟩, hn, hl, h1, h2⟩ := h
  dsimp only at t1 t2 hn hl h1 h2
  unfold ftake1
  cases bytes with
  | true =>
    obtain rfl := h2 rfl
    rw [fput1_byt rfl, List.append_assoc, List.append_assoc, vtake_put (by dsimp only; omega)]
    dsimp only
    rw [if_neg (by omega), vtake_put hl]
    dsimp only
    rw [if_pos (by omega), if_neg (by rw [List.length_append]; omega), List.take_left, List.drop_left]
    rw [show (((8 * tag + 2).toNat / 8 : Nat) : Int) = tag by omega]
  | false =>
    obtain rfl := h1 rfl
    rw [fput1_num rfl, List.append_assoc, vtake_put (by dsimp only; omega)]
    dsimp only
    rw [if_neg (by omega), vtake_put hn]
    dsimp only
    rw [if_neg (by omega)]
    rw [show (((8 * tag).toNat / 8 : Nat) : Int) = tag by omega]
theorem ftakeE_put : ∀ {l : List WF}, (∀ f ∈ l, FOk f) → ftakeE (l.flatMap fput1) = some l
  | [], _ => rfl
  | f :: l, h => by
    rw [List.flatMap_cons, ftakeE_some (ftake1_put (h f List.mem_cons_self) _), ftakeE_put fun g hg => h g (List.mem_cons_of_mem _ hg)]
    rfl
theorem vtake_cut {x k : Nat} (h : k < (vput x).length) : vtake ((vput x).take k) = none := vgo_cut x 0 k h
theorem take_app {α : Type} {a b : List α} {k : Nat} (h : k ≤ a.length) : (a ++ b).take k = a.take k := List.take_append_of_le_length h
theorem take_more {α : Type} {a b : List α} {k : Nat} (h : a.length ≤ k) : (a ++ b).take k = a ++ b.take (k - a.length) := by
  rw [List.take_append, List.take_of_length_le h]
/-- A field that is cut is none. -/
theorem ftake1_cut {f : WF} (h : FOk f) {k : Nat} (hk : k < (fput1 f).length) : ftake1 ((fput1 f).take k) = none := by
  obtain ⟨tag, bytes, n, b⟩ := f
  obtain ⟨⟨t1, t2⟩, hn, hl, h1, h2⟩ := h
  dsimp only at t1 t2 hn hl h1 h2
  unfold ftake1
  cases bytes with
  | true =>
    rw [fput1_byt rfl] at hk ⊢
    dsimp only at hk ⊢
    generalize hA : (8 * tag + 2).toNat = A at hk ⊢
    have hA2 : 10 ≤ A ∧ A ≤ 802 ∧ A % 8 = 2 := by omega
    rw [List.length_append, List.length_append] at hk
    rcases Nat.lt_or_ge k (vput A).length with h3 | h3
    · rw [take_app (by omega), vtake_cut h3]
    · rw [take_more h3, vtake_put (by omega)]
      dsimp only
      rw [if_neg (by omega)]
      rcases Nat.lt_or_ge (k - (vput A).length) (vput b.length).length with h4 | h4
      · rw [take_app (by omega), vtake_cut h4]
      · rw [take_more h4, vtake_put hl]
        dsimp only
        rw [if_pos hA2.2.2, if_pos (by rw [List.length_take]; omega)]
  | false =>
    rw [fput1_num rfl] at hk ⊢
    dsimp only at hk ⊢
    generalize hA : (8 * tag).toNat = A at hk ⊢
    have hA2 : 8 ≤ A ∧ A ≤ 800 ∧ A % 8 = 0 := by omega
    rw [List.length_append] at hk
    rcases Nat.lt_or_ge k (vput A).length with h3 | h3
    · rw [take_app (by omega), vtake_cut h3]
    · rw [take_more h3, vtake_put (by omega)]
      dsimp only
      rw [if_neg (by omega), vtake_cut (by omega)]
/-- P19.3: what is cut is none, or fewer. -/
theorem ftakeE_cut : ∀ {l : List WF}, (∀ f ∈ l, FOk f) → ∀ {k : Nat}, k < (l.flatMap fput1).length → ftakeE ((l.flatMap fput1).take k) = none ∨ ∃ m, ftakeE ((l.flatMap fput1).take k) = some m ∧ m.length < l.length
  | [], _, k, hk => by simp at hk
  | f :: l, h, k, hk => by
    have hf := h f List.mem_cons_self
    have hl : ∀ g ∈ l, FOk g := fun g hg => h g (List.mem_cons_of_mem _ hg)
    rw [List.flatMap_cons] at hk ⊢
    rw [List.length_append] at hk
    by_cases h0 : k = 0
    · subst h0
      exact .inr ⟨[], by rw [List.take_zero]; rfl, by simp⟩
    rcases Nat.lt_or_ge k (fput1 f).length with h1 | h1
    · left
      rw [take_app (by omega)]
      refine ftakeE_none (ftake1_cut hf h1) fun he => ?_
      have := congrArg List.length he
      rw [List.length_take, List.length_nil] at this
      omega
    · rw [take_more h1, ftakeE_some (ftake1_put hf _)]
      rcases ftakeE_cut hl (k := k - (fput1 f).length) (by omega) with h2 | ⟨m, h2, h3⟩
      · left; rw [h2]; rfl
      · right; rw [h2]; exact ⟨f :: m, rfl, by rw [List.length_cons, List.length_cons]; omega⟩
/-- What is taken is as it was put, and may be. -/
theorem ftake1_back {b : List UInt8} {x : WF} {r : List UInt8} (h : ftake1 b = some (x, r)) : FOk x ∧ b = fput1 x ++ r := by
  unfold ftake1 at h
  split at h
  · cases h
  · rename_i k more h1
    have l1 := vtake_len h1
    obtain ⟨e1, b1⟩ := vtake_some h1
    split at h
    · cases h
    · rename_i hk
      split at h
      · cases h
      · rename_i n behind h2
        have l2 := vtake_len h2
        obtain ⟨e2, b2⟩ := vtake_some h2
        split at h
        · rename_i h8
          split at h
          · cases h
          · rename_i hn
            injection h with h
            injection h with hx hr
            subst hx hr
            have hbl : (behind.take n).length = n := by rw [List.length_take]; omega
            refine ⟨⟨⟨by dsimp only; omega, by dsimp only; omega⟩, by dsimp only; omega, by dsimp only; omega, fun h => by simp at h, fun _ => rfl⟩, ?_⟩
            rw [fput1_byt rfl, e1, e2]
            dsimp only
            rw [hbl, show (8 * ((k / 8 : Nat) : Int) + 2).toNat = k by omega, List.append_assoc, List.append_assoc, List.take_append_drop]
        · rename_i h8
          injection h with h
          injection h with hx hr
          subst hx hr
          refine ⟨⟨⟨by dsimp only; omega, by dsimp only; omega⟩, b2, by dsimp only; simp, fun _ => rfl, fun h => by simp at h⟩, ?_⟩
          rw [fput1_num rfl, e1, e2]
          dsimp only
          rw [show (8 * ((k / 8 : Nat) : Int)).toNat = k by omega, List.append_assoc]
theorem ftakeE_back : ∀ (n : Nat) {b : List UInt8} {l : List WF}, b.length ≤ n → ftakeE b = some l → (∀ f ∈ l, FOk f) ∧ b = l.flatMap fput1
  | n, [], l, _, h => by
    rw [ftakeE_nil] at h
    injection h with h
    subst h
    exact ⟨by simp, rfl⟩
  | 0, _ :: _, _, h, _ => by simp at h
  | n + 1, c :: b, l, hn, h => by
    cases h1 : ftake1 (c :: b) with
    | none => rw [ftakeE_none h1 (by simp)] at h; cases h
    | some p =>
      obtain ⟨x, r⟩ := p
      have hl := ftake1_len h1
      obtain ⟨h2, h3⟩ := ftake1_back h1
      rw [ftakeE_some h1] at h
      cases h4 : ftakeE r with
      | none => rw [h4] at h; cases h
      | some m =>
        rw [h4] at h
        injection h with h
        subst h
        obtain ⟨h5, h6⟩ := ftakeE_back n (by rw [List.length_cons] at hn hl; omega) h4
        refine ⟨fun f hf => ?_, ?_⟩
        · rcases List.mem_cons.1 hf with rfl | hf
          · exact h2
          · exact h5 f hf
        · rw [h3, h6, List.flatMap_cons]
theorem fput1_pos (f : WF) : 2 ≤ (fput1 f).length := by
  unfold fput1
  split
  · rw [List.length_append, List.length_append]
    have := vput_len_pos (8 * f.tag + 2).toNat
    have := vput_len_pos f.b.length
    omega
  · rw [List.length_append]
    have := vput_len_pos (8 * f.tag).toNat
    have := vput_len_pos f.n
    omega
/-- P19.1: of both, one behind the other. -/
theorem fputE_app (l m : List WF) : fputE (l ++ m) = match fputE l, fputE m with | some a, some b => some (a ++ b) | _, _ => none := by
  unfold fputE
  by_cases h1 : ∀ f ∈ l, ftag f
  · by_cases h2 : ∀ f ∈ m, ftag f
    · rw [if_pos h1, if_pos h2, if_pos (fun f hf => (List.mem_append.1 hf).elim (h1 f) (h2 f)), List.flatMap_append]
    · rw [if_pos h1, if_neg h2, if_neg (fun h => h2 fun f hf => h f (List.mem_append_right _ hf))]
  · rw [if_neg h1, if_neg (fun h => h1 fun f hf => h f (List.mem_append_left _ hf))]
end Go.Proofs.Ytocodcceimeiiaa
