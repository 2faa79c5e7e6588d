
/- Numbers packed as they are (layer 8), as plain mathematics: heads, numbers as they stand, runs. -/

import Derived.Test.YtiapopaggpnceaaDoorEPlain

import Derived.Test.YtiapopaggpnceaaDoorBUnp

import Derived.Test.YtiapopaggpnceaaDoorSl

namespace Go.Proofs.YtiapopaggpnceaaDoor

/-- f of each; none, if it is none of one. -/
def omap {α β : Type} (f : α → Option β) : List α → Option (List β)
  | [] => some []
  | x :: l => match f x with | none => none | some y => match omap f l with | none => none | some ys => some (y :: ys)
section

variable {α β : Type} {f : α → Option β}
theorem omap_snoc (l : List α) (x : α) : omap f (l ++ [x]) = match omap f l with | none => none | some ys => match f x with | none => none | some y => some (ys ++ [y]) := by
  induction l with
  | nil => simp only [List.nil_append, omap]
  | cons z l ih =>
    rw [List.cons_append, omap, omap, ih]
    cases f z with
    | none => rfl
    | some y => cases omap f l with
      | none => rfl
      | some ys => cases f x <;> rfl
theorem omap_none {l : List α} {x : α} (hx : x ∈ l) (h : f x = none) : omap f l = none := by
  induction l with
  | nil => cases hx
  | cons z l ih =>
    rw [omap]
    rcases List.mem_cons.1 hx with rfl | hx
    · rw [h]
    · rw [ih hx]; cases f z <;> rfl
theorem omap_len {l : List α} {ys : List β} (h : omap f l = some ys) : ys.length = l.length := by
  induction l generalizing ys with
  | nil => simp [omap] at h; subst h; rfl
  | cons z l ih =>
    rw [omap] at h
    cases hz : f z with
    | none => rw [hz] at h; cases h
    | some y =>
      rw [hz] at h
      cases hl : omap f l with
      | none => rw [hl] at h; cases h
      | some zs =>
        rw [hl] at h
        injection h with h
        subst h
        rw [List.length_cons, List.length_cons, ih hl]
theorem omap_mem {l : List α} {ys : List β} (h : omap f l = some ys) {y : β} (hy : y ∈ ys) : ∃ x ∈ l, f x = some y := by
  induction l generalizing ys with
  | nil => simp [omap] at h; subst h; cases hy
  | cons z l ih =>
    rw [omap] at h
    cases hz : f z with
    | none => rw [hz] at h; cases h
    | some u =>
      rw [hz] at h
      cases hl : omap f l with
      | none => rw [hl] at h; cases h
      | some zs =>
        rw [hl] at h
        injection h with h
        subst h
        rcases List.mem_cons.1 hy with rfl | hy
        · exact ⟨z, List.mem_cons_self, hz⟩
        · obtain ⟨x, hx, hf⟩ := ih hl hy
          exact ⟨x, List.mem_cons_of_mem _ hx, hf⟩
theorem omap_back {g : β → Option α} {l : List α} {ys : List β} (hg : ∀ x ∈ l, ∀ y, f x = some y → g y = some x) (h : omap f l = some ys) : omap g ys = some l := by
  induction l generalizing ys with
  | nil => simp [omap] at h; subst h; rfl
  | cons z l ih =>
    rw [omap] at h
    cases hz : f z with
    | none => rw [hz] at h; cases h
    | some u =>
      rw [hz] at h
      cases hl : omap f l with
      | none => rw [hl] at h; cases h
      | some zs =>
        rw [hl] at h
        injection h with h
        subst h
        rw [omap, hg z List.mem_cons_self u hz, ih (fun x hx => hg x (List.mem_cons_of_mem _ hx)) hl]
end
/-- Numbers as they stand, and back; with an error's number. -/
def dplain (l : List Int) (s : Bool) : Option (List Nat) := omap (eplain · s) l
def dmade (u : List Nat) (s : Bool) : Option (List Int) := omap (emade · s) u
def dplainE (l : List Int) (s : Bool) : List Nat × Int := match dplain l s with | none => ([], 1) | some u => (u, 0)
def dmadeE (u : List Nat) (s : Bool) : List Int × Int := match dmade u s with | none => ([], 2) | some l => (l, 0)
theorem dplain_lt {l : List Int} {s : Bool} {u : List Nat} (hl : ∀ x ∈ l, inInt x) (h : dplain l s = some u) : ∀ y ∈ u, y < 2 ^ 64 := by
  intro y hy
  obtain ⟨x, hx, hf⟩ := omap_mem h hy
  exact eplain_lt (hl x hx).1 (hl x hx).2 hf
theorem dplain_len {l : List Int} {s : Bool} {u : List Nat} (h : dplain l s = some u) : u.length = l.length := omap_len h
theorem dmade_len {u : List Nat} {s : Bool} {l : List Int} (h : dmade u s = some l) : l.length = u.length := omap_len h
theorem dmade_bd {u : List Nat} {s : Bool} {l : List Int} (hu : ∀ x ∈ u, x < 2 ^ 64) (h : dmade u s = some l) : ∀ x ∈ l, inInt x := by
  intro x hx
  obtain ⟨y, hy, hf⟩ := omap_mem h hx
  exact emade_bd (hu y hy) hf
theorem dmade_dplain {l : List Int} {s : Bool} {u : List Nat} (hl : ∀ x ∈ l, inInt x) (h : dplain l s = some u) : dmade u s = some l :=
  omap_back (fun x hx _ hy => emade_eplain (hl x hx).1 (hl x hx).2 hy) h
/-- A head. -/
def dheadN (k c m : Nat) : List UInt8 := be 2 (16384 * k + 512 * c + (m - 1))
def dhead (k c m : Int) : List UInt8 := if 0 ≤ k ∧ k ≤ 3 ∧ 0 ≤ c ∧ c ≤ 31 ∧ 1 ≤ m ∧ m ≤ 512 then dheadN k.toNat c.toNat m.toNat else []
theorem dhead_in {k c m : Nat} (hk : k ≤ 3) (hc : c ≤ 31) (h1 : 1 ≤ m) (hm : m ≤ 512) : dhead (k : Int) (c : Int) (m : Int) = dheadN k c m := by
  unfold dhead
  rw [if_pos (by omega)]
  simp
theorem dheadN_len (k c m : Nat) : (dheadN k c m).length = 2 := be_len _ _
/-- What a head's number says: the kind, the code, how many. -/
def dlook (l : List UInt8) : Int × Int × Int × List UInt8 × Int :=
  if l.length < 2 then (0, 0, 0, [], 2)
  else (((bval (l.take 2) / 16384 : Nat) : Int), ((bval (l.take 2) / 512 % 32 : Nat) : Int), ((bval (l.take 2) % 512 + 1 : Nat) : Int), l.drop 2, 0)
theorem dheadN_bval {k c m : Nat} (hk : k ≤ 3) (hc : c ≤ 31) (h1 : 1 ≤ m) (hm : m ≤ 512) : bval (dheadN k c m) = 16384 * k + 512 * c + (m - 1) := by
  unfold dheadN
  rw [bval_be, Nat.mod_eq_of_lt (by omega)]
theorem dlook_head {k c m : Nat} (hk : k ≤ 3) (hc : c ≤ 31) (h1 : 1 ≤ m) (hm : m ≤ 512) (b : List UInt8) : dlook (dheadN k c m ++ b) = ((k : Int), (c : Int), (m : Int), b, 0) := by
  have hl := dheadN_len k c m
  have ht : (dheadN k c m ++ b).take 2 = dheadN k c m := by rw [← hl]; simp
  have hd : (dheadN k c m ++ b).drop 2 = b := by rw [← hl]; simp
  unfold dlook
  rw [if_neg (by rw [List.length_append, hl]; omega), ht, hd, dheadN_bval hk hc h1 hm]
  have e1 : (16384 * k + 512 * c + (m - 1)) / 16384 = k := by omega
  have e2 : (16384 * k + 512 * c + (m - 1)) / 512 % 32 = c := by omega
  have e3 : (16384 * k + 512 * c + (m - 1)) % 512 + 1 = m := by omega
  rw [e1, e2, e3]
/-- The two bytes of a number, and what they say. -/
theorem bval_two {l : List UInt8} (h : 2 ≤ l.length) : bval (l.take 2) = 256 * l[0].toNat + l[1].toNat ∧ bval (l.take 2) < 65536 := by
  match l, h with
  | a :: b :: r, _ =>
    have h1 := a.toNat_lt
    have h2 := b.toNat_lt
    have e : bval ((a :: b :: r).take 2) = 256 * a.toNat + b.toNat := by
      show bval [a, b] = _
      simp [bval]
      omega
    rw [e]
    exact ⟨rfl, by omega⟩
/-- The closest width of numbers, and its code. -/
def dwide (u : List Nat) : Nat := (wclosest (wmost u : Int)).toNat
theorem dwide_int {u : List Nat} : wclosest (wmost u : Int) = (dwide u : Int) := by unfold dwide; have := (wclosest_bd (wmost u : Int)).1; omega
theorem foldl_top : ∀ (u : List Nat) (n : Nat), n ≤ u.foldl (fun n x => max n x) n ∧ ∀ x ∈ u, x ≤ u.foldl (fun n x => max n x) n
  | [], n => ⟨Nat.le_refl _, fun _ h => by cases h⟩
  | y :: u, n => by
    have h := foldl_top u (max n y)
    refine ⟨Nat.le_trans (Nat.le_max_left _ _) h.1, fun x hx => ?_⟩
    rcases List.mem_cons.1 hx with rfl | hx
    · exact Nat.le_trans (Nat.le_max_right _ _) h.1
    · exact h.2 x hx
theorem wtop_mem {u : List Nat} {x : Nat} (h : x ∈ u) : x ≤ wtop u := (foldl_top u 0).2 x h
theorem dwide_room {u : List Nat} (h : ∀ x ∈ u, x < 2 ^ 64) : 1 ≤ dwide u ∧ dwide u ≤ 64 ∧ (∀ x ∈ u, x < 2 ^ dwide u) := by
  have h1 := wroom ⟨wmost u, by have := wmost_64 h; omega⟩
  have h2 := wclosest_bd (wmost u : Int)
  have h3 := dwide_int (u := u)
  dsimp only at h1
  rw [h3] at h1 h2
  refine ⟨by omega, by omega, fun x hx => ?_⟩
  have h4 : x ≤ wtop u := by
    clear h1 h2 h3 h
    exact wtop_mem hx
  have h5 := (wbits_iff (wtop_lt h) (show dwide u ≤ 64 by omega)).1 (by rw [wtop_bits h]; omega)
  omega
def dcode (u : List Nat) : Nat := (wcode (dwide u : Int)).toNat
/-- The code of the closest width stands for it. -/
theorem wclose_code : ∀ n : Fin 65, 0 ≤ wcode (wclosest (n.val : Int)) ∧ wcode (wclosest (n.val : Int)) ≤ 31 ∧ wof (wcode (wclosest (n.val : Int))) = wclosest (n.val : Int) := by decide +kernel
theorem dcode_int {u : List Nat} (h : ∀ x ∈ u, x < 2 ^ 64) : wcode (dwide u : Int) = (dcode u : Int) ∧ dcode u ≤ 31 ∧ wof (dcode u : Int) = (dwide u : Int) := by
  have h1 := wclose_code ⟨wmost u, by have := wmost_64 h; omega⟩
  dsimp only at h1
  rw [dwide_int] at h1
  have h2 : wcode (dwide u : Int) = (dcode u : Int) := by unfold dcode; omega
  rw [h2] at h1
  exact ⟨h2, by omega, h1.2.2⟩
/-- What Put answers. -/
def dlay (u : List Nat) : List UInt8 := dheadN 1 (dcode u) u.length ++ bpack u (dwide u)
def dputE (l : List Int) (s : Bool) : List UInt8 × Int := match dplain l s with | none => ([], 1) | some u => if l.length < 1 ∨ 512 < l.length then ([], 1) else (dlay u, 0)
/-- What Take answers. -/
def dtakeE (l : List UInt8) (s : Bool) : List Int × List UInt8 × Int :=
  if (dlook l).2.2.2.2 ≠ 0 ∨ (dlook l).1 ≠ 1 then ([], [], 2)
  else match unpacksAny (dlook l).2.2.2.1 (dlook l).2.2.1 (wof (dlook l).2.1) with
    | (u, r, e) => if e ≠ 0 then ([], [], 2) else match dmade u s with | none => ([], [], 2) | some m => (m, r, 0)
theorem dtakeE_ok {l : List UInt8} {c m : Int} {r : List UInt8} {s : Bool} (h : dlook l = (1, c, m, r, 0)) {u : List Nat} {q : List UInt8} (hu : unpacksAny r m (wof c) = (u, q, 0)) {o : List Int} (hm : dmade u s = some o) : dtakeE l s = (o, q, 0) := by
  unfold dtakeE
  rw [h]
  dsimp only
  rw [if_neg (by decide), hu]
  dsimp only
  rw [if_neg (by decide), hm]
theorem dtake_lay {u : List Nat} {l : List Int} {s : Bool} (hu : ∀ x ∈ u, x < 2 ^ 64) (h1 : 1 ≤ u.length) (h2 : u.length ≤ 512) (hm : dmade u s = some l) (b : List UInt8) : dtakeE (dlay u ++ b) s = (l, b, 0) := by
  obtain ⟨hw1, hw2, hw3⟩ := dwide_room hu
  obtain ⟨_, hc2, hc3⟩ := dcode_int hu
  have hd : dlook (dlay u ++ b) = (1, (dcode u : Int), (u.length : Int), bpack u (dwide u) ++ b, 0) := by
    unfold dlay
    rw [List.append_assoc]
    exact dlook_head (k := 1) (by omega) hc2 h1 h2 _
  refine dtakeE_ok hd ?_ hm
  rw [hc3, unpacksAny_in _ _ _ (by omega) hw2]
  exact unpacks_back hw3 b
/-- P8.4. -/
theorem dtake_back {l : List Int} {s : Bool} {u : List Nat} (hl : ∀ x ∈ l, inInt x) (h1 : 1 ≤ l.length) (h2 : l.length ≤ 512) (h : dplain l s = some u) (b : List UInt8) : dtakeE (dlay u ++ b) s = (l, b, 0) :=
  dtake_lay (dplain_lt hl h) (by rw [dplain_len h]; exact h1) (by rw [dplain_len h]; exact h2) (dmade_dplain hl h) b
end Go.Proofs.YtiapopaggpnceaaDoor
