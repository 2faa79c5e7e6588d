
/- Values that are nothing (layer 13), as plain mathematics. -/

import Derived.Test.YtffglnccpbbclaaKPlain

import Derived.Test.YtffglnccpbbclaaQPlain

namespace Go.Proofs.Ytffglnccpbbclaa

/-- What is nothing. -/
def nul : CV := ⟨true, 0, ⟨#[]⟩⟩
/-- A number. -/
def nv (n : Int) : CV := ⟨false, n, ⟨#[]⟩⟩
/-- Which are something, and those. -/
def npresent (l : List CV) : List Bool := l.map fun x => !x.null
def nsome (l : List CV) : List CV := l.filter fun x => !x.null
theorem npresent_len (l : List CV) : (npresent l).length = l.length := List.length_map _
theorem nsome_len (l : List CV) : (nsome l).length ≤ l.length := List.length_filter_le _ _
theorem npresent_snoc (l : List CV) {k : Nat} (h : k < l.length) : npresent (l.take (k + 1)) = npresent (l.take k) ++ [!l[k].null] := by
  unfold npresent
  rw [List.take_succ_eq_append_getElem h, List.map_append]
  rfl
theorem nsome_yes (l : List CV) {k : Nat} (h : k < l.length) (hn : l[k].null = false) : nsome (l.take (k + 1)) = nsome (l.take k) ++ [l[k]] := by
  unfold nsome
  rw [List.take_succ_eq_append_getElem h, List.filter_append]
  simp [hn]
theorem nsome_no (l : List CV) {k : Nat} (h : k < l.length) (hn : l[k].null = true) : nsome (l.take (k + 1)) = nsome (l.take k) := by
  unfold nsome
  rw [List.take_succ_eq_append_getElem h, List.filter_append]
  simp [hn]
/-- Put together again. -/
def njoin : List Bool → List CV → Option (List CV)
  | [], [] => some []
  | [], _ :: _ => none
  | false :: p, s => (njoin p s).map (nul :: ·)
  | true :: _, [] => none
  | true :: p, x :: s => if x.null then none else (njoin p s).map (x :: ·)
def njoinE (p : List Bool) (s : List CV) : List CV × Int := match njoin p s with | none => ([], 1) | some l => (l, 0)
theorem njoinE_no {p : List Bool} {s : List CV} (h : njoin p s = none) : njoinE p s = ([], 1) := by unfold njoinE; rw [h]
theorem njoinE_yes {p : List Bool} {s l : List CV} (h : njoin p s = some l) : njoinE p s = (l, 0) := by unfold njoinE; rw [h]
/-- P13.3: Join of Split. -/
theorem njoin_split : ∀ {l : List CV}, (∀ x ∈ l, x.null = true → x = nul) → njoin (npresent l) (nsome l) = some l
  | [], _ => rfl
  | x :: l, h => by
    have ih := njoin_split (l := l) fun y hy => h y (List.mem_cons_of_mem _ hy)
    cases hn : x.null with
    | true =>
      have e := h x List.mem_cons_self hn
      show njoin ((!x.null) :: npresent l) (List.filter _ (x :: l)) = _
      rw [List.filter_cons, hn]
      simp only [Bool.not_true, Bool.false_eq_true, if_false]
      show (njoin (npresent l) (nsome l)).map (nul :: ·) = _
      rw [ih, e]
      rfl
    | false =>
      show njoin ((!x.null) :: npresent l) (List.filter _ (x :: l)) = _
      rw [List.filter_cons, hn]
      simp only [Bool.not_false, if_true]
      show (if x.null then none else (njoin (npresent l) (nsome l)).map (x :: ·)) = _
      rw [hn, ih]
      rfl
/-- From the k-th on. -/
theorem njoin_end {p : List Bool} {s : List CV} {k at_ : Nat} (hk : p.length ≤ k) : njoin (p.drop k) (s.drop at_) = if at_ < s.length then none else some [] := by
  rw [List.drop_of_length_le hk]
  by_cases h : at_ < s.length
  · rw [if_pos h, List.drop_eq_getElem_cons h]; rfl
  · rw [if_neg h, List.drop_of_length_le (by omega)]; rfl
theorem njoin_nul {p : List Bool} {s : List CV} {k at_ : Nat} (hk : k < p.length) (hp : p[k] = false) (out : List CV) : (njoin (p.drop k) (s.drop at_)).map (out ++ ·) = (njoin (p.drop (k + 1)) (s.drop at_)).map ((out ++ [nul]) ++ ·) := by
  rw [List.drop_eq_getElem_cons hk, hp]
  show ((njoin (p.drop (k + 1)) (s.drop at_)).map (nul :: ·)).map (out ++ ·) = _
  rw [Option.map_map]
  congr 1
  funext y
  simp
theorem njoin_next {p : List Bool} {s : List CV} {k at_ : Nat} (hk : k < p.length) (hp : p[k] = true) (ha : at_ < s.length) (hn : s[at_].null = false) (out : List CV) : (njoin (p.drop k) (s.drop at_)).map (out ++ ·) = (njoin (p.drop (k + 1)) (s.drop (at_ + 1))).map ((out ++ [s[at_]]) ++ ·) := by
  rw [List.drop_eq_getElem_cons hk, hp, List.drop_eq_getElem_cons ha]
  show (if s[at_].null then none else (njoin (p.drop (k + 1)) (s.drop (at_ + 1))).map (s[at_] :: ·)).map (out ++ ·) = _
  rw [hn, if_neg (by simp), Option.map_map]
  congr 1
  funext y
  simp
theorem njoin_stop {p : List Bool} {s : List CV} {k at_ : Nat} (hk : k < p.length) (hp : p[k] = true) (h : ∀ ha : at_ < s.length, s[at_].null = true) : njoin (p.drop k) (s.drop at_) = none := by
  rw [List.drop_eq_getElem_cons hk, hp]
  by_cases ha : at_ < s.length
  · rw [List.drop_eq_getElem_cons ha]
    show (if s[at_].null then none else _) = none
    rw [h ha, if_pos rfl]
  · rw [List.drop_of_length_le (l := s) (by omega)]; rfl
/-- What Put answers. -/
def nputE (l : List CV) : List UInt8 × List CV × Int :=
  if 4096 < l.length then ([], [], 3) else if (nsome l).length = l.length then ([], nsome l, 0) else (yput (qpack (npresent l)), nsome l, 0)
/-- What Take answers. -/
def ntakeE (b : List UInt8) (many : Int) : List Bool × Int :=
  if many < 0 ∨ 4096 < many then ([], 1)
  else if b.length = 0 then (List.replicate many.toNat true, 0)
  else if (qtakeE b many).2.2 ≠ 0 ∨ 0 < (qtakeE b many).2.1.length ∨ (qcount (qtakeE b many).1 : Int) = many then ([], 2) else ((qtakeE b many).1, 0)
theorem nputE_big {l : List CV} (h : 4096 < l.length) : nputE l = ([], [], 3) := by unfold nputE; rw [if_pos h]
theorem nputE_all {l : List CV} (h : l.length ≤ 4096) (ha : (nsome l).length = l.length) : nputE l = ([], nsome l, 0) := by unfold nputE; rw [if_neg (by omega), if_pos ha]
theorem nputE_some {l : List CV} (h : l.length ≤ 4096) (ha : (nsome l).length ≠ l.length) : nputE l = (yput (qpack (npresent l)), nsome l, 0) := by unfold nputE; rw [if_neg (by omega), if_neg ha]
theorem nputE_q {l : List CV} (h : l.length ≤ 4096) : qputE (npresent l) = (yput (qpack (npresent l)), 0) := by unfold qputE; rw [npresent_len, if_pos h]
theorem qcount_present (l : List CV) : qcount (npresent l) = (nsome l).length := by
  unfold qcount npresent nsome
  induction l with
  | nil => rfl
  | cons x l ih =>
    simp only [List.map_cons, List.filter_cons]
    cases x.null <;> simp [ih]
theorem present_all {l : List CV} (h : (nsome l).length = l.length) : npresent l = List.replicate l.length true := by
  induction l with
  | nil => rfl
  | cons x l ih =>
    unfold nsome at h
    rw [List.filter_cons] at h
    have h1 := nsome_len l
    unfold nsome at h1
    cases hn : x.null with
    | true => rw [hn] at h; simp at h; omega
    | false =>
      rw [hn] at h
      simp at h
      show (!x.null) :: npresent l = _
      rw [ih (by unfold nsome; simpa using h), hn]
      rfl
theorem yput_pos {l : List UInt8} (h : l ≠ []) : 0 < (yput l).length := by
  cases l with
  | nil => exact absurd rfl h
  | cons x l =>
    by_cases h3 : 3 ≤ ysame (x :: l)
    · rw [yput_run x l h3]; simp
    · rw [yput_list x l (by omega)]; simp
theorem npack_ne {l : List CV} (h : (nsome l).length ≠ l.length) : 0 < (yput (qpack (npresent l))).length := by
  refine yput_pos fun h0 => ?_
  have h1 := qpack_len (npresent l)
  rw [h0, npresent_len] at h1
  have h2 := nsome_len l
  simp at h1
  omega
/-- P13.3: Take of Put. -/
theorem ntake_put {l : List CV} (h : l.length ≤ 4096) : ntakeE (nputE l).1 (l.length : Int) = (npresent l, 0) := by
  by_cases ha : (nsome l).length = l.length
  · rw [nputE_all h ha]
    unfold ntakeE
    rw [if_neg (by omega), if_pos (by rfl), present_all ha]
    simp
  · rw [nputE_some h ha]
    have h1 := npack_ne ha
    have h2 := qtake_back (npresent l) []
    rw [List.append_nil, npresent_len, ← qtakeE_in h] at h2
    unfold ntakeE
    dsimp only
    rw [if_neg (by omega), if_neg (by omega), h2]
    rw [if_neg]
    rintro (h3 | h3 | h3)
    · exact h3 rfl
    · simp at h3
    · rw [qcount_present] at h3
      omega
theorem nput_empty {l : List CV} (h : l.length ≤ 4096) : ((nputE l).1.length = 0) ↔ (nsome l).length = l.length := by
  by_cases ha : (nsome l).length = l.length
  · rw [nputE_all h ha]; simp [ha]
  · rw [nputE_some h ha]
    have h1 := npack_ne ha
    dsimp only
    omega
theorem nput_ok {l : List CV} (h : l.length ≤ 4096) : (nputE l).2.1 = nsome l ∧ (nputE l).2.2 = 0 := by
  by_cases ha : (nsome l).length = l.length
  · rw [nputE_all h ha]; exact ⟨rfl, rfl⟩
  · rw [nputE_some h ha]; exact ⟨rfl, rfl⟩
end Go.Proofs.Ytffglnccpbbclaa
