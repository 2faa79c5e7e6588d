/- Texts that the claims of this seat share, part 3: PPlain PTPlain PRef PRPut PRTake PLow PBase PFill PCut. -/
import Derived.Laws.OwnMore
import Derived.Test.YtdcgkjcefbceeaaDoorG2
/- Numbers of which a few are great (layer 10), as plain mathematics. -/



namespace Go.Proofs.YtdcgkjcefbceeaaDoor

/-- The least one. -/
def pbase (l : List Int) : Int := l.foldl min (l.headD 0)
theorem foldl_min_le : ∀ (l : List Int) (n : Int), l.foldl min n ≤ n ∧ ∀ x ∈ l, l.foldl min n ≤ x
  | [], n => ⟨Int.le_refl _, fun _ h => by cases h⟩
  | y :: l, n => by
    have h := foldl_min_le l (min n y)
    rw [List.foldl_cons]
    refine ⟨by omega, fun x hx => ?_⟩
    rcases List.mem_cons.1 hx with rfl | hx
    · omega
    · exact h.2 x hx
theorem foldl_min_mem : ∀ (l : List Int) (n : Int), l.foldl min n = n ∨ l.foldl min n ∈ l
  | [], n => .inl rfl
  | y :: l, n => by
    rw [List.foldl_cons]
    rcases foldl_min_mem l (min n y) with h | h
    · by_cases hn : n ≤ y
      · left; omega
      · right; rw [h, show min n y = y by omega]; exact List.mem_cons_self
    · exact .inr (List.mem_cons_of_mem _ h)
theorem pbase_le {l : List Int} {x : Int} (h : x ∈ l) : pbase l ≤ x := (foldl_min_le l _).2 x h
theorem pbase_mem {l : List Int} (h : 1 ≤ l.length) : pbase l ∈ l := by
  unfold pbase
  rcases foldl_min_mem l (l.headD 0) with h2 | h2
  · rw [h2]
    cases l with
    | nil => simp at h
    | cons a t => exact List.mem_cons_self
  · exact h2
def pone (base x : Int) : Option Nat := if (gdiff base x).2.2 = true then some (gdiff base x).1 else none
def pups (l : List Int) : Option (List Nat) := omap (pone (pbase l)) l
theorem pone_step {base x : Int} {u : Nat} (hx : inInt x) (hle : base ≤ x) (h : pone base x = some u) : gstep base u false = (x, true) ∧ (u : Int) < 9223372036854775808 := by
  unfold pone at h
  split at h
  · rename_i hk
    injection h with h
    subst h
    have h1 := gstep_gdiff (a := base) hx hk
    have h2 : (gdiff base x).2.1 = false := by
      rcases gdiff_cases base x with ⟨k, _⟩ | ⟨k1, _, _⟩ | ⟨_, _, k⟩
      · rw [k]
      · omega
      · rw [k]
    rw [h2] at h1
    exact ⟨h1, gdiff_lt base x⟩
  · cases h
theorem pups_len {l : List Int} {us : List Nat} (h : pups l = some us) : us.length = l.length := omap_len h
theorem pups_lt {l : List Int} {us : List Nat} (hl : ∀ x ∈ l, inInt x) (h : pups l = some us) : ∀ u ∈ us, (u : Int) < 9223372036854775808 := by
  intro u hu
  obtain ⟨x, hx, hu⟩ := omap_mem h hu
  exact (pone_step (hl x hx) (pbase_le hx) hu).2
/-- Pairs of a gap and a patch, of the first k numbers; and where the last one stands that is patched. -/
def pst (w : Nat) (us : List Nat) : Nat → List (Nat × Nat) × Nat
  | 0 => ([], 0)
  | k + 1 =>
    if us.getD k 0 / 2 ^ w = 0 then pst w us k
    else ((pst w us k).1 ++ (List.replicate ((k - (pst w us k).2 - 1) / 255) (255, 0) ++ [(k - (pst w us k).2 - 255 * ((k - (pst w us k).2 - 1) / 255), us.getD k 0 / 2 ^ w)]), k)
theorem pst_skip {w : Nat} {us : List Nat} {k : Nat} (h : us.getD k 0 / 2 ^ w = 0) : pst w us (k + 1) = pst w us k := by rw [pst, if_pos h]
theorem pst_more {w : Nat} {us : List Nat} {k : Nat} (h : us.getD k 0 / 2 ^ w ≠ 0) : pst w us (k + 1) = ((pst w us k).1 ++ (List.replicate ((k - (pst w us k).2 - 1) / 255) (255, 0) ++ [(k - (pst w us k).2 - 255 * ((k - (pst w us k).2 - 1) / 255), us.getD k 0 / 2 ^ w)]), k) := by rw [pst, if_neg h]
theorem pst_last (w : Nat) (us : List Nat) : ∀ k, (pst w us k).2 ≤ k
  | 0 => Nat.le_refl _
  | k + 1 => by
    have := pst_last w us k
    by_cases h : us.getD k 0 / 2 ^ w = 0
    · rw [pst_skip h]; omega
    · rw [pst_more h]; exact Nat.le_succ k
theorem pst_gap (w : Nat) (us : List Nat) : ∀ k, ∀ q ∈ (pst w us k).1, q.1 ≤ 255 ∧ (q.2 = 0 ∨ ∃ i, i < k ∧ q.2 = us.getD i 0 / 2 ^ w)
  | 0 => fun q hq => by cases hq
  | k + 1 => by
    intro q hq
    have ih := pst_gap w us k
    by_cases h : us.getD k 0 / 2 ^ w = 0
    · rw [pst_skip h] at hq
      obtain ⟨h1, h2⟩ := ih q hq
      exact ⟨h1, h2.imp id fun ⟨i, hi, h3⟩ => ⟨i, by omega, h3⟩⟩
    · rw [pst_more h] at hq
      simp only [List.mem_append, List.mem_replicate, List.mem_singleton] at hq
      rcases hq with hq | ⟨_, hq⟩ | hq
      · obtain ⟨h1, h2⟩ := ih q hq
        exact ⟨h1, h2.imp id fun ⟨i, hi, h3⟩ => ⟨i, by omega, h3⟩⟩
      · subst hq; exact ⟨Nat.le_refl _, .inl rfl⟩
      · subst hq; exact ⟨by dsimp only; omega, .inr ⟨k, by omega, rfl⟩⟩
def ppairs (w : Nat) (us : List Nat) : List (Nat × Nat) := (pst w us us.length).1
/-- The gap's width, and the patch's. -/
def pgw (ps : List (Nat × Nat)) : Nat := max 1 (wmost (ps.map (·.1)))
def ppw (ps : List (Nat × Nat)) : Nat := (wclosest (max 1 (wmost (ps.map (·.2))) : Nat)).toNat
def pcode (w : Nat) : Nat := (wcode (w : Int)).toNat
theorem wclose_all : ∀ n : Fin 65, 1 ≤ wclosest (n.val : Int) ∧ wclosest (n.val : Int) ≤ 64 ∧ (n.val : Int) ≤ wclosest (n.val : Int) ∧ 0 ≤ wcode (wclosest (n.val : Int)) ∧ wcode (wclosest (n.val : Int)) ≤ 31 ∧ wof (wcode (wclosest (n.val : Int))) = wclosest (n.val : Int) := by decide +kernel
theorem pclose {n : Nat} (h : n ≤ 64) : 1 ≤ (wclosest (n : Int)).toNat ∧ (wclosest (n : Int)).toNat ≤ 64 ∧ n ≤ (wclosest (n : Int)).toNat ∧ pcode (wclosest (n : Int)).toNat ≤ 31 ∧ wof (pcode (wclosest (n : Int)).toNat : Int) = ((wclosest (n : Int)).toNat : Int) ∧ wclosest (n : Int) = ((wclosest (n : Int)).toNat : Int) ∧ wcode ((wclosest (n : Int)).toNat : Int) = (pcode (wclosest (n : Int)).toNat : Int) := by
  have h1 := wclose_all ⟨n, by omega⟩
  dsimp only at h1
  have e : wclosest (n : Int) = ((wclosest (n : Int)).toNat : Int) := by omega
  have e2 : wcode ((wclosest (n : Int)).toNat : Int) = (pcode (wclosest (n : Int)).toNat : Int) := by unfold pcode; rw [← e]; omega
  refine ⟨by omega, by omega, by omega, ?_, ?_, e, e2⟩
  · rw [← e] at e2; omega
  · rw [← e2, ← e]; exact h1.2.2.2.2.2
theorem ppw_ok {w : Nat} {us : List Nat} (hu : ∀ u ∈ us, u < 2 ^ 64) : wmost ((ppairs w us).map (·.2)) ≤ 64 ∧ wmost ((ppairs w us).map (·.1)) ≤ 8 ∧ (∀ q ∈ ppairs w us, q.1 ≤ 255 ∧ q.2 < 2 ^ 64) := by
  have hq : ∀ q ∈ ppairs w us, q.1 ≤ 255 ∧ q.2 < 2 ^ 64 := by
    intro q hq
    obtain ⟨h1, h2⟩ := pst_gap w us us.length q hq
    refine ⟨h1, ?_⟩
    rcases h2 with h2 | ⟨i, hi, h2⟩
    · rw [h2]; exact Nat.two_pow_pos _
    · rw [h2, List.getD_eq_getElem?_getD, List.getElem?_eq_getElem hi]
      exact Nat.lt_of_le_of_lt (Nat.div_le_self _ _) (hu _ (List.getElem_mem hi))
  refine ⟨wmost_64 fun x hx => ?_, ?_, hq⟩
  · obtain ⟨q, hm, rfl⟩ := List.mem_map.1 hx
    exact (hq q hm).2
  · have h64 : ∀ x ∈ (ppairs w us).map (·.1), x < 2 ^ 64 := fun x hx => by
      obtain ⟨q, hm, rfl⟩ := List.mem_map.1 hx
      exact Nat.lt_of_le_of_lt (hq q hm).1 (by decide)
    rw [← wtop_bits h64]
    refine wbits_le (by omega) ?_
    have : ∀ (l : List Nat) (n : Nat), n ≤ 255 → (∀ x ∈ l, x ≤ 255) → l.foldl (fun n x => max n x) n ≤ 255 := by
      intro l
      induction l with
      | nil => intro n hn _; exact hn
      | cons y l ih => intro n hn h; rw [List.foldl_cons]; exact ih _ (by have := h y List.mem_cons_self; omega) fun x hx => h x (List.mem_cons_of_mem _ hx)
    have h2 := this ((ppairs w us).map (·.1)) 0 (by omega) fun x hx => by
      obtain ⟨q, hm, rfl⟩ := List.mem_map.1 hx
      exact (hq q hm).1
    unfold wtop
    show _ < 256
    omega
/-- A base as bytes. -/
def psize (base : Int) : Nat := (gdiff 0 base).1
def pn (base : Int) : Nat := wbits (psize base) / 8 + 1
def pbased (base : Int) : List UInt8 := be (pn base) (psize base + if base < 0 then 2 ^ (8 * pn base - 1) else 0)
def plow (us : List Nat) (w : Nat) : List Nat := us.map (· % 2 ^ w)
def pboth (ps : List (Nat × Nat)) (p : Nat) : List Nat := ps.map fun q => q.1 * 2 ^ p + q.2
def pheadb (base : Int) (ps : List (Nat × Nat)) : List UInt8 := [UInt8.ofNat (32 * (pn base - 1) + pcode (ppw ps)), UInt8.ofNat (32 * (pgw ps - 1) + ps.length)]
def play (base : Int) (us : List Nat) (w : Nat) : List UInt8 :=
  dheadN 2 (pcode w) us.length ++ pheadb base (ppairs w us) ++ pbased base ++ bpack (plow us w) w ++ bpack (pboth (ppairs w us) (ppw (ppairs w us))) (wclosest ((pgw (ppairs w us) + ppw (ppairs w us) : Nat) : Int)).toNat
/-- What Put answers. -/
def pputE (l : List Int) (W : Int) (s : Bool) : List UInt8 × Int :=
  if dplain l s = none ∨ l.length < 1 ∨ 512 < l.length ∨ wcode W < 0 ∨ 64 ≤ W then ([], 1)
  else match pups l with
    | none => ([], 1)
    | some us =>
      if pbase l = -9223372036854775808 ∨ 31 < (ppairs W.toNat us).length ∨ 64 < pgw (ppairs W.toNat us) + ppw (ppairs W.toNat us) ∨ 64 < W.toNat + ppw (ppairs W.toNat us) then ([], 1)
      else (play (pbase l) us W.toNat, 0)
/-- One pair is laid upon the numbers. -/
def pstep (w g p m : Nat) (st : Nat × List Nat) (v : Nat) : Option (Nat × List Nat) :=
  if v / 2 ^ p < 2 ^ g ∧ st.1 + v / 2 ^ p < m ∧ (wbits (v % 2 ^ p) + w ≤ 63 ∨ v % 2 ^ p = 0) then
    some (st.1 + v / 2 ^ p, st.2.set (st.1 + v / 2 ^ p) (st.2.getD (st.1 + v / 2 ^ p) 0 ^^^ (v % 2 ^ p * 2 ^ w)))
  else none
def pall (w g p m : Nat) : Nat × List Nat → List Nat → Option (Nat × List Nat)
  | st, [] => some st
  | st, v :: vs => match pstep w g p m st v with | none => none | some st' => pall w g p m st' vs
theorem pall_append (w g p m : Nat) (st : Nat × List Nat) (a b : List Nat) : pall w g p m st (a ++ b) = match pall w g p m st a with | none => none | some st' => pall w g p m st' b := by
  induction a generalizing st with
  | nil => rfl
  | cons v vs ih =>
    rw [List.cons_append, pall, pall]
    cases pstep w g p m st v with
    | none => rfl
    | some st' => exact ih st'
theorem pall_snoc (w g p m : Nat) (st : Nat × List Nat) (a : List Nat) (v : Nat) : pall w g p m st (a ++ [v]) = match pall w g p m st a with | none => none | some st' => pstep w g p m st' v := by
  rw [pall_append]
  cases pall w g p m st a with
  | none => rfl
  | some st' =>
    dsimp only
    rw [pall]
    cases pstep w g p m st' v with
    | none => rfl
    | some _ => rfl
/-- What Take answers. -/
def pend (s : Bool) (base : Int) (w g p m : Nat) (low both : List Nat) (q : List UInt8) : List Int × List UInt8 × Int :=
  match pall w g p m (0, low) both with
  | none => gbad
  | some st => match omap (gnext s false base) st.2 with | none => gbad | some xs => (xs, q, 0)
def pbits (s : Bool) (base : Int) (c m : Int) (g p some_ : Nat) (r : List UInt8) : List Int × List UInt8 × Int :=
  match unpacksAny r m (wof c) with
  | (low, r3, e) => if e ≠ 0 then gbad else match unpacksAny r3 some_ (wclosest ((g + p : Nat) : Int)) with
    | (both, r4, e) => if e ≠ 0 then gbad else pend s base (wof c).toNat g p m.toNat low both r4
/-- The base that bytes are. -/
def pmade (x : List UInt8) : Int := if 2 ^ (8 * x.length - 1) ≤ bval x then -((bval x % 2 ^ (8 * x.length - 1) : Nat) : Int) else ((bval x % 2 ^ (8 * x.length - 1) : Nat) : Int)
def pbody (s : Bool) (c m : Int) (r : List UInt8) : List Int × List UInt8 × Int :=
  if r.length < 2 then gbad
  else if 64 < (r.getD 1 0).toNat / 32 + 1 + (wof ((r.getD 0 0).toNat % 32 : Nat)).toNat ∨ r.length - 2 < (r.getD 0 0).toNat / 32 + 1 then gbad
  else pbits s (pmade ((r.drop 2).take ((r.getD 0 0).toNat / 32 + 1))) c m ((r.getD 1 0).toNat / 32 + 1) (wof ((r.getD 0 0).toNat % 32 : Nat)).toNat ((r.getD 1 0).toNat % 32) ((r.drop 2).drop ((r.getD 0 0).toNat / 32 + 1))
def ptakeE (l : List UInt8) (s : Bool) : List Int × List UInt8 × Int :=
  if (dlook l).2.2.2.2 ≠ 0 ∨ (dlook l).1 ≠ 2 then gbad else pbody s (dlook l).2.1 (dlook l).2.2.1 (dlook l).2.2.2.1

/-- The bits below a place, and those above: together. -/
theorem xor_join (w a b : Nat) (ha : a < 2 ^ w) : a ^^^ (b * 2 ^ w) = a + b * 2 ^ w := by
  refine Nat.eq_of_testBit_eq fun i => ?_
  rw [Nat.testBit_xor, Nat.mul_comm b, Nat.add_comm a, Nat.testBit_two_pow_mul_add b ha]
  by_cases h : i < w
  · rw [if_pos h, Nat.testBit_two_pow_mul, decide_eq_false (by omega : ¬ w ≤ i)]
    simp
  · rw [if_neg h, Nat.testBit_two_pow_mul, decide_eq_true (by omega : w ≤ i)]
    have h2 : a.testBit i = false := Nat.testBit_lt_two_pow (Nat.lt_of_lt_of_le ha (Nat.pow_le_pow_right (by omega) (by omega)))
    rw [h2]
    simp
theorem patch_back (u w : Nat) : (u % 2 ^ w) ^^^ (u / 2 ^ w * 2 ^ w) = u := by
  rw [xor_join w _ _ (Nat.mod_lt _ (Nat.two_pow_pos w)), Nat.mul_comm]
  have := Nat.div_add_mod u (2 ^ w)
  omega
theorem pstep_of {w g p m : Nat} {st : Nat × List Nat} {gap patch : Nat} (hp : patch < 2 ^ p) (hg : gap < 2 ^ g) (hm : st.1 + gap < m) (hb : wbits patch + w ≤ 63 ∨ patch = 0) :
    pstep w g p m st (gap * 2 ^ p + patch) = some (st.1 + gap, st.2.set (st.1 + gap) (st.2.getD (st.1 + gap) 0 ^^^ (patch * 2 ^ w))) := by
  have e1 : (gap * 2 ^ p + patch) / 2 ^ p = gap := by rw [Nat.mul_comm, Nat.mul_add_div (Nat.two_pow_pos p), Nat.div_eq_of_lt hp, Nat.add_zero]
  have e2 : (gap * 2 ^ p + patch) % 2 ^ p = patch := by rw [Nat.mul_comm, Nat.mul_add_mod, Nat.mod_eq_of_lt hp]
  unfold pstep
  rw [e1, e2, if_pos ⟨hg, hm, hb⟩]
theorem set_same {low : List Nat} {k : Nat} : low.set k (low.getD k 0) = low := by
  by_cases h : k < low.length
  · rw [List.getD_eq_getElem?_getD, List.getElem?_eq_getElem h, Option.getD_some]; exact List.set_getElem_self h
  · exact List.set_eq_of_length_le (by omega)
/-- Pairs of the gap 255 and the patch 0 go on and change nothing. -/
theorem pall_fill {w g p m : Nat} (hg : 255 < 2 ^ g) : ∀ (j at_ : Nat) (low : List Nat), at_ + 255 * j < m → pall w g p m (at_, low) (pboth (List.replicate j (255, 0)) p) = some (at_ + 255 * j, low)
  | 0, at_, low, _ => by simp [pboth, pall]
  | j + 1, at_, low, h => by
    have hm : (at_, low).1 + 255 < m := Nat.lt_of_le_of_lt (Nat.add_le_add_left (by omega : 255 ≤ 255 * (j + 1)) at_) h
    have h1 := pstep_of (w := w) (p := p) (patch := 0) (Nat.two_pow_pos p) hg hm (.inr rfl)
    have h2 := pall_fill (w := w) (p := p) hg j (at_ + 255) low (by omega : at_ + 255 + 255 * j < m)
    rw [Nat.zero_mul, Nat.xor_zero, set_same] at h1
    dsimp only at h1
    unfold pboth at h2 ⊢
    rw [List.replicate_succ, List.map_cons, pall, h1]
    dsimp only
    rw [h2]
    congr 2
    omega
/-- What is patched of the first k numbers makes these again. -/
theorem pall_st {w g p : Nat} {us : List Nat} (hu : ∀ u ∈ us, (u : Int) < 9223372036854775808) (hw : w ≤ 63) : ∀ k, k ≤ us.length → (∀ q ∈ (pst w us k).1, q.1 < 2 ^ g ∧ q.2 < 2 ^ p) →
    pall w g p us.length (0, plow us w) (pboth (pst w us k).1 p) = some ((pst w us k).2, us.take k ++ (plow us w).drop k)
  | 0, _, _ => by simp [pst, pboth, pall]
  | k + 1, hk, h => by
    have hll : (plow us w).length = us.length := by simp [plow]
    have hkl : k < (plow us w).length := by omega
    have hd : (plow us w).drop k = (us[k] % 2 ^ w) :: (plow us w).drop (k + 1) := by rw [List.drop_eq_getElem_cons hkl]; simp [plow]
    have hgd : us.getD k 0 = us[k] := by rw [List.getD_eq_getElem?_getD, List.getElem?_eq_getElem (by omega)]; rfl
    by_cases h0 : us.getD k 0 / 2 ^ w = 0
    · rw [pst_skip h0] at h ⊢
      rw [pall_st hu hw k (by omega) h, hd, List.take_succ_eq_append_getElem (by omega), List.append_assoc]
      rw [hgd] at h0
      have : us[k] % 2 ^ w = us[k] := by have := Nat.div_add_mod us[k] (2 ^ w); rw [h0] at this; omega
      rw [this]
      rfl
    · rw [pst_more h0] at h ⊢
      have hlast := pst_last w us k
      obtain ⟨last, hl⟩ : ∃ last, last = (pst w us k).2 := ⟨_, rfl⟩
      obtain ⟨j, hj⟩ : ∃ j, j = (k - last - 1) / 255 := ⟨_, rfl⟩
      rw [← hl, ← hj] at h ⊢
      rw [← hl] at hlast
      have hih := pall_st hu hw k (by omega) fun q hq => h q (List.mem_append_left _ hq)
      have hone := h (k - last - 255 * j, us.getD k 0 / 2 ^ w) (List.mem_append_right _ (List.mem_append_right _ (List.mem_singleton.2 rfl)))
      rw [pboth, List.map_append, List.map_append, pall_append, ← pboth, hih]
      dsimp only
      rw [← hl, pall_append, ← pboth]
      have hfill : pall w g p us.length (last, us.take k ++ (plow us w).drop k) (pboth (List.replicate j (255, 0)) p) = some (last + 255 * j, us.take k ++ (plow us w).drop k) := by
        by_cases hj0 : j = 0
        · subst hj0; rfl
        · have h255 : 255 < 2 ^ g := (h (255, 0) (List.mem_append_right _ (List.mem_append_left _ (List.mem_replicate.2 ⟨hj0, rfl⟩)))).1
          exact pall_fill h255 j last _ (by omega)
      rw [hfill]
      dsimp only
      rw [List.map_cons, List.map_nil, pall]
      have hb : wbits (us.getD k 0 / 2 ^ w) + w ≤ 63 := by
        have h1 : us.getD k 0 / 2 ^ w < 2 ^ (63 - w) := by
          rw [Nat.div_lt_iff_lt_mul (Nat.two_pow_pos w), ← Nat.pow_add, show 63 - w + w = 63 by omega, hgd]
          have := hu us[k] (List.getElem_mem _)
          show us[k] < 9223372036854775808
          omega
        have := wbits_le (by omega) h1
        omega
      rw [pstep_of hone.2 hone.1 (by dsimp only; omega) (.inl hb)]
      dsimp only
      rw [show last + 255 * j + (k - last - 255 * j) = k by omega, pall]
      congr 2
      have htl : (us.take k).length = k := by rw [List.length_take]; omega
      rw [hd, List.getD_eq_getElem?_getD, List.getElem?_append_right (by omega), htl, Nat.sub_self, List.getElem?_cons_zero, Option.getD_some, hgd, patch_back, List.set_append_right _ _ (by omega), htl, Nat.sub_self, List.set_cons_zero, List.take_succ_eq_append_getElem (by omega), List.append_assoc]
      rfl
theorem wcode_back {x : Int} (h : 0 ≤ wcode x) : wof (wcode x) = x ∧ wcode x ≤ 31 := by
  refine ⟨?_, (wcode_bd x).2⟩
  unfold wcode at h ⊢
  cases hf : (List.range 32).find? fun i => wat i == x with
  | none => rw [hf] at h; dsimp only at h; omega
  | some i =>
    dsimp only
    have h1 := List.find?_some hf
    have h2 := List.mem_range.1 (List.mem_of_find?_eq_some hf)
    rw [wof_in h2]
    simpa using h1
theorem pcode_back {w : Nat} (h : 0 ≤ wcode (w : Int)) : wof (pcode w : Int) = (w : Int) ∧ pcode w ≤ 31 ∧ wcode (w : Int) = (pcode w : Int) := by
  have h1 := wcode_back h
  have e : wcode (w : Int) = (pcode w : Int) := by unfold pcode; omega
  rw [e] at h1
  exact ⟨h1.1, by omega, e⟩
theorem psize_base {base : Int} (h : inInt base) (h2 : base ≠ -9223372036854775808) : (psize base : Int) = (if base < 0 then -base else base) ∧ (psize base : Int) < 9223372036854775808 := by
  unfold inInt at h
  unfold psize
  rcases gdiff_cases 0 base with ⟨_, k⟩ | ⟨k1, k2, k⟩ | ⟨k1, k2, k⟩
  · omega
  · rw [k, if_pos k1]; dsimp only; omega
  · rw [k, if_neg (by omega)]; dsimp only; omega
theorem pn_bd {base : Int} (h : (psize base : Int) < 9223372036854775808) : 1 ≤ pn base ∧ pn base ≤ 8 ∧ psize base < 2 ^ (8 * pn base - 1) := by
  have h1 : psize base < 2 ^ 63 := by show psize base < 9223372036854775808; omega
  have h2 := wbits_le (by omega) h1
  have h3 := wbits_lt (x := psize base) (Nat.lt_trans h1 (by decide))
  unfold pn
  refine ⟨by omega, by omega, Nat.lt_of_lt_of_le h3 (Nat.pow_le_pow_right (by omega) (by omega))⟩
theorem pbased_len (base : Int) : (pbased base).length = pn base := be_len _ _
theorem pbased_bval {base : Int} (h : (psize base : Int) < 9223372036854775808) : bval (pbased base) = psize base + if base < 0 then 2 ^ (8 * pn base - 1) else 0 := by
  obtain ⟨h1, _, h3⟩ := pn_bd h
  unfold pbased
  rw [bval_be, Nat.mod_eq_of_lt]
  rw [p256, show 8 * pn base = (8 * pn base - 1) + 1 by omega, Nat.pow_succ, Nat.add_sub_cancel]
  split <;> omega
theorem pmade_back {base : Int} (h : inInt base) (h2 : base ≠ -9223372036854775808) : pmade (pbased base) = base := by
  obtain ⟨hs, hlt⟩ := psize_base h h2
  obtain ⟨_, _, h3⟩ := pn_bd hlt
  unfold pmade
  rw [pbased_len, pbased_bval hlt]
  generalize 2 ^ (8 * pn base - 1) = P at *
  by_cases hb : base < 0
  · rw [if_pos hb] at hs ⊢
    rw [if_pos (by omega), Nat.add_mod_right, Nat.mod_eq_of_lt h3]
    omega
  · rw [if_neg hb] at hs ⊢
    rw [if_neg (by omega), Nat.add_zero, Nat.mod_eq_of_lt h3]
    omega
theorem wtop_bound {l : List Nat} (h : ∀ x ∈ l, x < 2 ^ 64) {x : Nat} (hx : x ∈ l) : x < 2 ^ wmost l := by
  have h1 := (wbits_iff (wtop_lt h) (wmost_64 h)).1 (by rw [wtop_bits h]; exact Nat.le_refl _)
  exact Nat.lt_of_le_of_lt (wtop_mem hx) h1
/-- What is known of the pairs of numbers. -/
theorem ppairs_ok {w : Nat} {us : List Nat} (hu : ∀ u ∈ us, u < 2 ^ 64) :
    1 ≤ pgw (ppairs w us) ∧ pgw (ppairs w us) ≤ 8 ∧ 1 ≤ ppw (ppairs w us) ∧ ppw (ppairs w us) ≤ 64 ∧ wclosest ((max 1 (wmost ((ppairs w us).map (·.2))) : Nat) : Int) = (ppw (ppairs w us) : Int) ∧ wcode (ppw (ppairs w us) : Int) = (pcode (ppw (ppairs w us)) : Int) ∧ pcode (ppw (ppairs w us)) ≤ 31 ∧ wof (pcode (ppw (ppairs w us)) : Int) = (ppw (ppairs w us) : Int) ∧
    ∀ q ∈ ppairs w us, q.1 < 2 ^ pgw (ppairs w us) ∧ q.2 < 2 ^ ppw (ppairs w us) := by
  obtain ⟨h1, h2, h3⟩ := ppw_ok (w := w) hu
  obtain ⟨c1, c2, c3, c4, c5, c6, c7⟩ := pclose (n := max 1 (wmost ((ppairs w us).map (·.2)))) (by omega)
  have hg : pgw (ppairs w us) = max 1 (wmost ((ppairs w us).map (·.1))) := rfl
  refine ⟨by omega, by omega, c1, c2, c6, c7, c4, c5, fun q hq => ⟨?_, ?_⟩⟩
  · have := wtop_bound (l := (ppairs w us).map (·.1)) (fun x hx => by
      obtain ⟨q, hm, rfl⟩ := List.mem_map.1 hx
      exact Nat.lt_of_le_of_lt (h3 q hm).1 (by decide)) (List.mem_map_of_mem hq)
    exact Nat.lt_of_lt_of_le this (Nat.pow_le_pow_right (by omega) (by omega))
  · have := wtop_bound (l := (ppairs w us).map (·.2)) (fun x hx => by
      obtain ⟨q, hm, rfl⟩ := List.mem_map.1 hx
      exact (h3 q hm).2) (List.mem_map_of_mem hq)
    refine Nat.lt_of_lt_of_le this (Nat.pow_le_pow_right (by omega) ?_)
    show _ ≤ (wclosest ((max 1 (wmost ((ppairs w us).map (·.2))) : Nat) : Int)).toNat
    omega
theorem pboth_lt {ps : List (Nat × Nat)} {g p : Nat} (h : ∀ q ∈ ps, q.1 < 2 ^ g ∧ q.2 < 2 ^ p) : ∀ x ∈ pboth ps p, x < 2 ^ (g + p) := by
  intro x hx
  obtain ⟨q, hq, rfl⟩ := List.mem_map.1 hx
  obtain ⟨h1, h2⟩ := h q hq
  have : (q.1 + 1) * 2 ^ p ≤ 2 ^ g * 2 ^ p := Nat.mul_le_mul_right _ h1
  rw [Nat.pow_add]
  rw [Nat.add_mul] at this
  omega
theorem byte_low {n : Nat} (h : n < 256) : (UInt8.ofNat n).toNat = n := by simp only [UInt8.toNat_ofNat', Nat.reducePow]; exact Nat.mod_eq_of_lt h
/-- P10.3. -/
theorem ptake_back {l : List Int} {s : Bool} {us : List Nat} {w : Nat} (hl : ∀ x ∈ l, inInt x ∧ (s = true ∨ 0 ≤ x)) (h1 : 1 ≤ l.length) (h5 : l.length ≤ 512) (hc : 0 ≤ wcode (w : Int)) (hw : w < 64) (hu : pups l = some us)
    (hb : pbase l ≠ -9223372036854775808) (h31 : (ppairs w us).length ≤ 31) (hgp : pgw (ppairs w us) + ppw (ppairs w us) ≤ 64) (b : List UInt8) : ptakeE (play (pbase l) us w ++ b) s = (l, b, 0) := by
  have hbi : inInt (pbase l) := (hl _ (pbase_mem h1)).1
  obtain ⟨hs, hlt⟩ := psize_base hbi hb
  obtain ⟨n1, n8, _⟩ := pn_bd hlt
  have hu63 := pups_lt (fun x hx => (hl x hx).1) hu
  have hu64 : ∀ u ∈ us, u < 2 ^ 64 := fun u h => by have := hu63 u h; show u < 18446744073709551616; omega
  obtain ⟨g1, g8, p1, p64, _, _, pc, pw, hq⟩ := ppairs_ok (w := w) hu64
  obtain ⟨cw, c31, _⟩ := pcode_back hc
  have hul := pups_len hu
  obtain ⟨W2, hW2⟩ : ∃ W2, W2 = (wclosest ((pgw (ppairs w us) + ppw (ppairs w us) : Nat) : Int)).toNat := ⟨_, rfl⟩
  obtain ⟨_, d2, d3, _, _, d6, _⟩ := pclose hgp
  rw [← hW2] at d2 d3 d6
  have hbl := pboth_lt hq
  have hbl2 : ∀ x ∈ pboth (ppairs w us) (ppw (ppairs w us)), x < 2 ^ W2 := fun x hx => Nat.lt_of_lt_of_le (hbl x hx) (Nat.pow_le_pow_right (by omega) d3)
  have hst := pall_st (w := w) (g := pgw (ppairs w us)) (p := ppw (ppairs w us)) hu63 (by omega) us.length (Nat.le_refl _) hq
  have hpe : pboth (pst w us us.length).1 (ppw (ppairs w us)) = pboth (ppairs w us) (ppw (ppairs w us)) := rfl
  rw [hpe, List.take_of_length_le (Nat.le_refl _), List.drop_eq_nil_of_le (by simp [plow]), List.append_nil] at hst
  have hback : omap (gnext s false (pbase l)) us = some l := omap_back (fun x hx u h => by
    have h2 := pone_step (hl x hx).1 (pbase_le hx) h
    unfold gnext
    rw [h2.1]
    exact if_pos ⟨rfl, (hl x hx).2⟩) hu
  have hll : (plow us w).length = us.length := by simp [plow]
  have hpl : (pboth (ppairs w us) (ppw (ppairs w us))).length = (ppairs w us).length := by simp [pboth]
  generalize hps : ppairs w us = ps at *
  generalize hpp : ppw ps = p at *
  generalize hgg : pgw ps = g at *
  have e0 : (UInt8.ofNat (32 * (pn (pbase l) - 1) + pcode p)).toNat = 32 * (pn (pbase l) - 1) + pcode p := byte_low (by omega)
  have e1 : (UInt8.ofNat (32 * (g - 1) + ps.length)).toNat = 32 * (g - 1) + ps.length := byte_low (by omega)
  have hlook : dlook (play (pbase l) us w ++ b) = (2, (pcode w : Int), (us.length : Int), UInt8.ofNat (32 * (pn (pbase l) - 1) + pcode p) :: UInt8.ofNat (32 * (g - 1) + ps.length) :: (pbased (pbase l) ++ (bpack (plow us w) w ++ (bpack (pboth ps p) W2 ++ b))), 0) := by
    unfold play pheadb
    rw [hps, hpp, hgg, ← hW2]
    simp only [List.append_assoc, List.cons_append, List.nil_append]
    exact dlook_head (k := 2) (by omega) c31 (by omega) (by omega) _
  unfold ptakeE
  rw [hlook]
  dsimp only
  rw [if_neg (by omega)]
  unfold pbody
  simp only [List.getD_cons_zero, List.getD_cons_succ, List.drop_succ_cons, List.drop_zero, List.length_cons, List.length_append, e0, e1, pbased_len]
  rw [if_neg (by omega), show (32 * (pn (pbase l) - 1) + pcode p) % 32 = pcode p by omega, pw, Int.toNat_natCast, show (32 * (pn (pbase l) - 1) + pcode p) / 32 + 1 = pn (pbase l) by omega, show (32 * (g - 1) + ps.length) / 32 + 1 = g by omega, show (32 * (g - 1) + ps.length) % 32 = ps.length by omega,
    if_neg (by omega), List.take_left' (pbased_len _), List.drop_left' (pbased_len _), pmade_back hbi hb]
  unfold pbits
  rw [cw, unpacksAny_in _ _ _ (by omega) (by omega), ← hll, unpacks_back (fun x hx => by
    obtain ⟨u, _, rfl⟩ := List.mem_map.1 hx
    exact Nat.mod_lt _ (Nat.two_pow_pos w))]
  dsimp only
  rw [if_neg (by decide), d6, unpacksAny_in _ _ _ (by omega) d2, ← hpl, unpacks_back hbl2]
  dsimp only
  rw [if_neg (by decide), hll]
  unfold pend
  rw [Int.toNat_natCast, Int.toNat_natCast, hst]
  dsimp only
  rw [hback]
end Go.Proofs.YtdcgkjcefbceeaaDoor

/- What the walk of layer 10's Take asks, as plain mathematics. -/





namespace Go.Proofs.YtdcgkjcefbceeaaDoor

open Go.RowKit

theorem gbad_eq : gbad = ([], [], 2) := rfl
theorem ptakeE_head {l : List UInt8} {s : Bool} (h : (dlook l).2.2.2.2 ≠ 0 ∨ (dlook l).1 ≠ 2) : ptakeE l s = ([], [], 2) := by unfold ptakeE; rw [if_pos h]; rfl
theorem ptakeE_in {l r : List UInt8} {s : Bool} {c m : Int} (h : dlook l = (2, c, m, r, 0)) : ptakeE l s = pbody s c m r := by
  unfold ptakeE
  rw [h]
  exact if_neg (by simp)
theorem dlook_many {l r : List UInt8} {k c m : Int} (h : dlook l = (k, c, m, r, 0)) : 1 ≤ m := by
  by_cases h2 : l.length < 2
  · rw [dlook_short h2] at h; injection h with _ h; injection h with _ h; injection h with _ h; injection h with _ h; cases h
  · rw [dlook_long (X := 256 * l[0].toNat + l[1].toNat) (by omega) rfl] at h
    injection h with _ h; injection h with _ h; injection h with h _
    omega
theorem pbody_short {r : List UInt8} {s : Bool} {c m : Int} (h : r.length < 2) : pbody s c m r = ([], [], 2) := by unfold pbody; rw [if_pos h]; rfl
theorem pbody_eq {r d : List UInt8} {s : Bool} {c m : Int} {b0 b1 n g p t : Nat} (h2 : 2 ≤ r.length) (h0 : b0 = r[0].toNat) (h1 : b1 = r[1].toNat) (hn : n = b0 / 32 + 1) (hg : g = b1 / 32 + 1) (ht : t = b1 % 32) (hp : wof ((b0 % 32 : Nat) : Int) = (p : Int)) (hd : d = r.drop 2) :
    pbody s c m r = if 64 < g + p ∨ d.length < n then ([], [], 2) else pbits s (pmade (d.take n)) c m g p t (d.drop n) := by
  have e0 : (r.getD 0 0).toNat = b0 := by rw [h0, List.getD_eq_getElem?_getD, List.getElem?_eq_getElem (by omega)]; rfl
  have e1 : (r.getD 1 0).toNat = b1 := by rw [h1, List.getD_eq_getElem?_getD, List.getElem?_eq_getElem (by omega)]; rfl
  have ep : (wof ((b0 % 32 : Nat) : Int)).toNat = p := by rw [hp]; rfl
  unfold pbody
  rw [if_neg (by omega), e0, e1, ep, ← hn, ← hg, ← ht, ← hd, show r.length - 2 = d.length by rw [hd, List.length_drop]]
  rfl
theorem bval_cons (b : UInt8) (r : List UInt8) : bval (b :: r) = b.toNat * 256 ^ r.length + bval r := by simp [bval]
theorem bval_snoc_at (r : List UInt8) (k : Nat) (h : k < r.length) : bval (r.take (k + 1)) = 256 * bval (r.take k) + r[k].toNat := by
  rw [List.take_succ_eq_append_getElem h, bval_append]
  simp [bval]
  omega
/-- The base that bytes are, as a step from 0. -/
theorem pmade_step {x : List UInt8} {x0 S : Nat} (h1 : 1 ≤ x.length) (h8 : x.length ≤ 8) (hx : x0 = x[0].toNat) (hS : S = bval x % 2 ^ (8 * x.length - 1)) :
    gstep 0 S (decide (128 ≤ x0)) = (pmade x, true) ∧ inInt (pmade x) ∧ (S : Int) < 9223372036854775808 := by
  cases x with
  | nil => simp at h1
  | cons b r =>
    simp only [List.getElem_cons_zero] at hx
    rw [List.length_cons] at h8 hS
    obtain ⟨P, hP⟩ : ∃ P, P = 256 ^ r.length := ⟨_, rfl⟩
    have hpow : 2 ^ (8 * (r.length + 1) - 1) = 128 * P := by rw [hP, p256, show 8 * (r.length + 1) - 1 = 7 + 8 * r.length by omega, Nat.pow_add]
    have hR : bval r < P := by rw [hP]; exact bval_lt r
    have hPp : 0 < P := by omega
    have hPb : P ≤ 72057594037927936 := by
      rw [hP]
      have : 256 ^ r.length ≤ 256 ^ 7 := Nat.pow_le_pow_right (by omega) (by omega)
      omega
    have hS2 : S < 128 * P := by rw [hS, hpow]; exact Nat.mod_lt _ (by omega)
    have hge : (2 ^ (8 * (b :: r).length - 1) ≤ bval (b :: r)) ↔ 128 ≤ x0 := by
      rw [List.length_cons, hpow, bval_cons, ← hP, ← hx]
      constructor
      · intro h
        refine Nat.not_lt.1 fun h2 => ?_
        have h3 : (x0 + 1) * P ≤ 128 * P := Nat.mul_le_mul_right _ h2
        rw [Nat.add_mul] at h3
        omega
      · intro h
        have h3 : 128 * P ≤ x0 * P := Nat.mul_le_mul_right _ h
        omega
    have hpm : pmade (b :: r) = if 128 ≤ x0 then -(S : Int) else (S : Int) := by
      unfold pmade
      rw [List.length_cons, ← hS]
      rw [List.length_cons] at hge
      by_cases h : 128 ≤ x0
      · rw [if_pos h, if_pos (hge.2 h)]
      · rw [if_neg h, if_neg fun h2 => h (hge.1 h2)]
    have hS3 : (S : Int) < 9223372036854775808 := by omega
    refine ⟨?_, ?_, hS3⟩
    · rw [hpm]
      unfold gstep
      rw [if_neg (by omega)]
      by_cases h : 128 ≤ x0
      · rw [if_pos (decide_eq_true h), if_neg (by omega), if_pos h]; simp
      · rw [if_neg (by simpa using h), if_neg (by omega), if_neg h]; simp
    · rw [hpm]
      unfold inInt
      split <;> omega
theorem pmod_step {B y k : Nat} (hk : 1 ≤ k) (hy : y < 256) : (256 * B + y) % 2 ^ (8 * (k + 1) - 1) = 256 * (B % 2 ^ (8 * k - 1)) + y := by
  obtain ⟨M, hM⟩ : ∃ M, M = 2 ^ (8 * k - 1) := ⟨_, rfl⟩
  have hp : 0 < M := by rw [hM]; exact Nat.two_pow_pos _
  rw [show 2 ^ (8 * (k + 1) - 1) = 256 * M by rw [hM, show 8 * (k + 1) - 1 = 8 + (8 * k - 1) by omega, Nat.pow_add], ← hM]
  have h1 := Nat.div_add_mod B M
  have h2 := Nat.mod_lt B hp
  obtain ⟨q, hq⟩ : ∃ q, q = B / M := ⟨_, rfl⟩
  obtain ⟨t, ht⟩ : ∃ t, t = B % M := ⟨_, rfl⟩
  rw [← hq, ← ht] at h1
  rw [← ht] at h2 ⊢
  rw [show 256 * B + y = (256 * t + y) + (256 * M) * q by rw [← h1, Nat.mul_add, Nat.mul_assoc]; omega, Nat.add_mul_mod_self_left]
  exact Nat.mod_eq_of_lt (by omega)
theorem pmod_one (x0 : Nat) : x0 % 128 = x0 % 2 ^ (8 * 1 - 1) := rfl
theorem pbits_cut {s : Bool} {base : Int} {c m : Int} {g p t : Nat} {r q : List UInt8} {us : List Nat} {e : Int} (hu : unpacksAny r m (wof c) = (us, q, e)) (he : e ≠ 0) : pbits s base c m g p t r = ([], [], 2) := by
  unfold pbits; rw [hu]; dsimp only; rw [if_pos he]; rfl
theorem pbits_cut2 {s : Bool} {base : Int} {c m : Int} {g p t : Nat} {r q q2 : List UInt8} {us vs : List Nat} {e : Int} (hu : unpacksAny r m (wof c) = (us, q, 0)) (hv : unpacksAny q (t : Int) (wclosest ((g + p : Nat) : Int)) = (vs, q2, e)) (he : e ≠ 0) : pbits s base c m g p t r = ([], [], 2) := by
  unfold pbits; rw [hu]; dsimp only; rw [if_neg (by simp), hv]; dsimp only; rw [if_pos he]; rfl
theorem pbits_in {s : Bool} {base : Int} {c m : Int} {g p t : Nat} {r q q2 : List UInt8} {us vs : List Nat} (hu : unpacksAny r m (wof c) = (us, q, 0)) (hv : unpacksAny q (t : Int) (wclosest ((g + p : Nat) : Int)) = (vs, q2, 0)) : pbits s base c m g p t r = pend s base (wof c).toNat g p m.toNat us vs q2 := by
  unfold pbits; rw [hu]; dsimp only; rw [if_neg (by simp), hv]; dsimp only; rw [if_neg (by simp)]
theorem pend_none {s : Bool} {base : Int} {w g p m : Nat} {low both : List Nat} {q : List UInt8} (h : pall w g p m (0, low) both = none) : pend s base w g p m low both q = ([], [], 2) := by unfold pend; rw [h]; rfl
theorem pend_some {s : Bool} {base : Int} {w g p m a : Nat} {low both lf : List Nat} {q : List UInt8} (h : pall w g p m (0, low) both = some (a, lf)) : pend s base w g p m low both q = match omap (gnext s false base) lf with | none => ([], [], 2) | some xs => (xs, q, 0) := by unfold pend; rw [h]; rfl
theorem pall_take_none {w g p m : Nat} {st : Nat × List Nat} {both : List Nat} {k : Nat} (h : pall w g p m st (both.take k) = none) : pall w g p m st both = none := by
  rw [← List.take_append_drop k both, pall_append, h]
theorem pall_next {w g p m : Nat} {st st' : Nat × List Nat} {both : List Nat} {k v : Nat} (hk : k < both.length) (hv : v = both[k]) (h : pall w g p m st (both.take k) = some st') : pall w g p m st (both.take (k + 1)) = pstep w g p m st' v := by
  rw [List.take_succ_eq_append_getElem hk, pall_snoc, h, ← hv]
/-- One pair, of its parts. -/
theorem pstep_eq {w g p m at_ v gap patch : Nat} {low : List Nat} (hg : gap = v / 2 ^ p) (hp : patch = v % 2 ^ p) : pstep w g p m (at_, low) v = if gap < 2 ^ g ∧ at_ + gap < m ∧ (wbits patch + w ≤ 63 ∨ patch = 0) then some (at_ + gap, low.set (at_ + gap) (low.getD (at_ + gap) 0 ^^^ (patch * 2 ^ w))) else none := by
  unfold pstep
  rw [← hg, ← hp]
/-- A patch and the number there are below 2^64. -/
theorem patch_lt {w patch : Nat} (hp : patch < 2 ^ 64) (h : wbits patch + w ≤ 63 ∨ patch = 0) : patch * 2 ^ w < 2 ^ 63 := by
  rcases h with h | h
  · have h1 := wbits_lt hp
    have h2 : patch * 2 ^ w < 2 ^ wbits patch * 2 ^ w := Nat.mul_lt_mul_of_pos_right h1 (Nat.two_pow_pos _)
    rw [← Nat.pow_add] at h2
    exact Nat.lt_of_lt_of_le h2 (Nat.pow_le_pow_right (by omega) h)
  · rw [h, Nat.zero_mul]; exact Nat.two_pow_pos _
end Go.Proofs.YtdcgkjcefbceeaaDoor

/- Contracts of layer 10's reference: above, pairs, based. -/











namespace Go.Proofs.YtdcgkjcefbceeaaDoor

open Go.RowKit

/-- What the reference's above answers. -/
def paboveE (l : List Int) : Int × List Nat × Bool := match pups l with | none => (0, [], false) | some us => (pbase l, us, pbase l != -9223372036854775808)
def RetA (w : World) (p : Int × List Nat × Bool) (e : Ending) (w' : World) : Prop := ∃ v, e = .returned (.tuple #[.int .i64 p.1, v, .bool p.2.2]) ∧ IsV uv p.2.1 v w' ∧ Below w.heap.size w w'
def AboveRel (l : List Int) (w : World) (b i : Value) (wr : World) : Prop := ∃ k : Nat, k ≤ l.length ∧ i = .int .i64 (k : Int) ∧ b = .int .i64 ((l.take k).foldl min (l.headD 0)) ∧ wr = w
theorem pdiff_q (a b : Int) (u : Nat) (d o : Bool) (w : World) (ha : inInt a) (hb : inInt b) (h : gdiff a b = (u, d, o)) : Calls Tryd.prog 60 #[.int .i64 a, .int .i64 b] w fun e w' => e = .returned (.tuple #[.int .u64 (u : Int), .bool d, .bool o]) ∧ w = w' := by
  refine (rdiff9_any a b w ha hb).mono ?_
  rintro e w' ⟨h1, h2⟩
  rw [h] at h1
  exact ⟨h1, h2⟩
set_option maxHeartbeats 2000000 in
set_option maxRecDepth 100000 in
theorem rabove_any (l : List Int) (v : Value) (w : World) (hv : IsV iv l v w) (hl : ∀ x ∈ l, inInt x) (h1 : 1 ≤ l.length) (hb : l.length ≤ 1000000) :
    Calls Tryd.prog 30 #[v] w (RetA w (paboveE l)) := by
  have HV := Lib.hid hv
  obtain ⟨A, n, c, rfl⟩ := hv.shape
  have hn := hv.parts.1
  obtain ⟨ad, rfl, had, hc0⟩ := hv.at (k := 0) (by omega)
  have e0 : ad.add 0 = ad := by simp [Addr.add]
  rw [e0] at hc0
  obtain ⟨x0, hx0⟩ : ∃ x, x = l[0] := ⟨_, rfl⟩
  have hcx : w.cell? ad = some (.int .i64 x0) := by rw [hc0, hx0]; rfl
  have HH : Hid (l.headD 0 = x0) := Lib.hid (by rw [hx0]; cases l with | nil => simp at h1 | cons a t => rfl)
  have hbi : inInt (pbase l) := hl _ (pbase_mem h1)
  have HN := Lib.hid hn
  have HL := Lib.hid hl
  have HBI := Lib.hid hbi
  have hn1 : 1 ≤ n := by omega
  have hn0 : (0 : Int) < (n : Int) := by omega
  have hnb : n ≤ 1000000 := by omega
  clear hv hn hc0 hx0 hl h1 hb hbi e0
  go_enter Tryd.func30, Tryd.ntmps30
  go_wp2
  go_loopw [5, 6] (AboveRel l w) (fun _ i _ => n - (intOf i).toNat)
  case atStart => exact ⟨0, by omega, rfl, by rw [List.take_zero, List.foldl_nil, HH.out], rfl⟩
  case round =>
    obtain ⟨k, hk, rfl, rfl, rfl⟩ := hrel
    have hk' : k ≤ n := by have := HN.out; omega
    by_cases hlt : k < n
    · have hkl : k < l.length := by have := HN.out; omega
      have hlti : (k : Int) < (n : Int) := by omega
      obtain ⟨_, hAd, _, hcell⟩ := HV.out.at hkl
      injection hAd with hAd
      subst hAd
      obtain ⟨x, hx⟩ : ∃ x, x = l[k] := ⟨_, rfl⟩
      have hcy : wr.cell? (ad.add k) = some (.int .i64 x) := by rw [hcell, hx]; rfl
      obtain ⟨b, hbb⟩ : ∃ b, b = (l.take k).foldl min (l.headD 0) := ⟨_, rfl⟩
      rw [← hbb]
      obtain ⟨m, hm⟩ : ∃ m, m = min b x := ⟨_, rfl⟩
      have hmin : ∀ (ts : Array TypeId) (t : TypeId) (W : World), (Builtin.min_ ts t #[.int .i64 b, .int .i64 x]).run Tryd.prog W = .ok (.int .i64 m) W := fun ts t W => by
        rw [run_min_int2]
        congr 2
        split <;> omega
      have HM : Hid (m = (l.take (k + 1)).foldl min (l.headD 0)) := Lib.hid (by rw [List.take_succ_eq_append_getElem hkl, List.foldl_append, ← hbb, ← hx, hm]; rfl)
      clear hcell hx hbb hm
      go_wp2
      go_roundw
      case rel => exact ⟨k + 1, by have := HN.out; omega, by go_num, by rw [HM.out], rfl⟩
      case measure => simp [intOf]; omega
    · obtain rfl : n = k := by omega
      have hlti : ¬ (n : Int) < (n : Int) := by omega
      have HB0 : Hid ((l.take n).foldl min (l.headD 0) = pbase l) := Lib.hid (by rw [List.take_of_length_le (by have := HN.out; omega)]; rfl)
      rw [HB0.out]
      obtain ⟨b, hbb⟩ : ∃ b, b = pbase l := ⟨_, rfl⟩
      rw [← hbb]
      have HBB := Lib.hid hbb
      have hst : OmapRel (pone b) uv 62 l wr (.slice (some ⟨wr.heap.size, 0, none⟩) 0 0) (.int .i64 0) (wr.alloc (.cells #[] 62)) := ⟨0, [], by omega, rfl, rfl, own_made wr _, (Below.refl _ _).alloc (Nat.le_refl _) _⟩
      have HST := Lib.hid hst
      clear hst hbb hcx
      generalize wr = w0 at *
      go_wp2
      go_loopw [7, 8] (OmapRel (pone b) uv 62 l w0) (fun _ i _ => n - (intOf i).toNat)
      case atStart => exact HST.out
      case round =>
        obtain ⟨k, acc, hk, rfl, hacc, hown, hbw⟩ := hrel
        have hz := hbw.size
        have hal : acc.length = k := by rw [omap_len hacc, List.length_take]; omega
        have HACC := Lib.hid hacc
        have HAL := Lib.hid hal
        have hk' : k ≤ n := by have := HN.out; omega
        have HSTT := HST
        clear HST hacc
        rw [hal] at hown
        clear hal
        by_cases hlt : k < n
        · have hkl : k < l.length := by have := HN.out; omega
          have hlti : (k : Int) < (n : Int) := by omega
          obtain ⟨_, hAd, _, hcell⟩ := (HV.out.below hbw).at hkl
          injection hAd with hAd
          subst hAd
          obtain ⟨x, hx⟩ : ∃ x, x = l[k] := ⟨_, rfl⟩
          have hcy : wr.cell? (ad.add k) = some (.int .i64 x) := by rw [hcell, hx]; rfl
          have hxb : inInt x := by rw [hx]; exact HL.out _ (List.getElem_mem hkl)
          obtain ⟨u, d, o, hg⟩ : ∃ u d o, gdiff b x = (u, d, o) := ⟨_, _, _, rfl⟩
          have HD := Lib.hid (fun W => pdiff_q b x u d o W (by rw [HBB.out]; exact HBI.out) hxb hg)
          have hp : pone b x = if o = true then some u else none := by unfold pone; rw [hg]
          have HP := Lib.hid hp
          have HX := Lib.hid hx
          clear hcell hx hxb hg hp
          cases o with
          | false =>
            have hE : Hid (paboveE l = (0, [], false)) := Lib.hid (by
              have h1 : pups l = none := by
                unfold pups
                rw [← HBB.out]
                exact omap_none (x := x) (by rw [HX.out]; exact List.getElem_mem hkl) (by rw [HP.out]; rfl)
              unfold paboveE; rw [h1])
            go_wp2_with (go_at_call 60; refine (HD.out _).mono ?_; rintro e w' ⟨rfl, rfl⟩)
            refine bodyPost_ret (results_tmp3 rfl _ _ _) rfl ?_
            rw [hE.out]
            exact ⟨_, rfl, isV_nil _ _, hbw⟩
          | true =>
            have hnext : Hid (omap (pone b) (l.take (k + 1)) = some (acc ++ [u])) := Lib.hid (omap_take hkl HACC.out (by rw [← HX.out, HP.out]; rfl))
            go_wp2_with (first | (go_at_call 60; refine (HD.out _).mono ?_; rintro e w' ⟨rfl, rfl⟩) | (at_builtin; refine wpList_push elemU rfl _ _ rfl w0.heap.size _ _ _ (uv u) wr w0 rfl rfl rfl rfl hown hbw hz (by omega) (by omega) ?_))
            intro v5 w5 hown5 hb5 _ _
            have hown6 : w5.ownsRow w0.heap.size 62 1 v5 (acc ++ [u]).length ((acc ++ [u]).map uv) := by
              rw [List.length_append, List.length_singleton, List.map_append, List.map_singleton, HAL.out]
              exact hown5
            clear hown5 hown
            go_wp2
            go_roundw
            case rel => exact ⟨k + 1, _, by have := HN.out; omega, by go_num, hnext.out, hown6, hb5⟩
            case measure => simp [intOf]; omega
        · obtain rfl : n = k := by omega
          have hlti : ¬ (n : Int) < (n : Int) := by omega
          have hE : Hid (paboveE l = (b, acc, b != -9223372036854775808)) := Lib.hid (by
            have h1 := HACC.out
            rw [List.take_of_length_le (by have := HN.out; omega)] at h1
            have h2 : pups l = some acc := by unfold pups; rw [← HBB.out]; exact h1
            unfold paboveE; rw [h2, HBB.out])
          obtain ⟨t, ht⟩ : ∃ t, t = (b != -9223372036854775808) := ⟨_, rfl⟩
          rw [← ht] at hE
          have ht' := ht.symm
          have HO := Lib.hid (isV_own hown)
          have HBW := Lib.hid hbw
          clear ht hown hbw
          go_wp2
          refine bodyPost_ret (results_tmp3 rfl _ _ _) rfl ?_
          rw [hE.out]
          exact ⟨_, rfl, HO.out, HBW.out⟩

def pgaps (ps : List (Nat × Nat)) : List Int := ps.map fun q => (q.1 : Int)
def ppats (ps : List (Nat × Nat)) : List Nat := ps.map (·.2)
def RetP (w : World) (ps : List (Nat × Nat)) (e : Ending) (w' : World) : Prop := ∃ u v, e = .returned (.tuple #[u, v]) ∧ IsV iv (pgaps ps) u w' ∧ IsV uv (ppats ps) v w' ∧ Below w.heap.size w w'
theorem pst_len (w : Nat) (us : List Nat) : ∀ k, (pst w us k).1.length ≤ k + (pst w us k).2 / 255
  | 0 => by simp [pst]
  | k + 1 => by
    have ih := pst_len w us k
    have hl := pst_last w us k
    by_cases h : us.getD k 0 / 2 ^ w = 0
    · rw [pst_skip h]; omega
    · rw [pst_more h]
      simp only [List.length_append, List.length_replicate, List.length_singleton]
      omega
def PairsRel (us : List Nat) (w : Nat) (W : World) (vg vp last i : Value) (wr : World) : Prop :=
  ∃ k : Nat, k ≤ us.length ∧ i = .int .i64 (k : Int) ∧ last = .int .i64 ((pst w us k).2 : Int) ∧ wr.ownsRow W.heap.size 3 1 vg (pst w us k).1.length ((pgaps (pst w us k).1).map iv) ∧ wr.ownsRow W.heap.size 62 1 vp (pst w us k).1.length ((ppats (pst w us k).1).map uv) ∧ Below W.heap.size W wr
def PFillRel (ps : List (Nat × Nat)) (l0 j : Nat) (W : World) (vg vp last : Value) (wr : World) : Prop :=
  ∃ i : Nat, i ≤ j ∧ last = .int .i64 ((l0 + 255 * i : Nat) : Int) ∧ wr.ownsRow W.heap.size 3 1 vg (ps.length + i) ((pgaps (ps ++ List.replicate i (255, 0))).map iv) ∧ wr.ownsRow W.heap.size 62 1 vp (ps.length + i) ((ppats (ps ++ List.replicate i (255, 0))).map uv) ∧ Below W.heap.size W wr
set_option maxHeartbeats 4000000 in
set_option maxRecDepth 100000 in
theorem rpairs_any (us : List Nat) (v : Value) (W0 : Nat) (w : World) (hv : IsV uv us v w) (h64 : ∀ u ∈ us, u < 2 ^ 64) (hb : us.length ≤ 10000) (hw : W0 ≤ 64) :
    Calls Tryd.prog 31 #[v, .int .i64 (W0 : Int)] w (RetP w (ppairs W0 us)) := by
  have HV := Lib.hid hv
  obtain ⟨A, n, c, rfl⟩ := hv.shape
  have hn := hv.parts.1
  have HN := Lib.hid hn
  have H64 := Lib.hid h64
  have hnb : n ≤ 10000 := by omega
  have hst : PairsRel us W0 w (.slice (some ⟨w.heap.size, 0, none⟩) 0 0) (.slice (some ⟨w.heap.size + 1, 0, none⟩) 0 0) (.int .i64 0) (.int .i64 0) ((w.alloc (.cells #[] 3)).alloc (.cells #[] 62)) := by
    refine ⟨0, by omega, rfl, rfl, (own_made w _).alloc _, ?_, ((Below.refl _ _).alloc (Nat.le_refl _) _).alloc (by simp) _⟩
    have h := own_made (w.alloc (.cells #[] 3)) 62
    rw [show (w.alloc (.cells #[] 3)).heap.size = w.heap.size + 1 by simp] at h
    exact own_le h (by omega)
  have HST := Lib.hid hst
  clear hv hn h64 hb hst
  go_enter Tryd.func31, Tryd.ntmps31
  go_wp2
  go_loopw [6, 7, 8, 9] (PairsRel us W0 w) (fun _ _ _ i _ => n - (intOf i).toNat)
  case atStart => exact HST.out
  case round =>
    obtain ⟨k, hk, rfl, rfl, hg, hp, hbr⟩ := hrel
    have HSTT := HST
    clear HST
    have hk' : k ≤ n := by have := HN.out; omega
    have hz := hbr.size
    by_cases hlt : k < n
    · have hkl : k < us.length := by have := HN.out; omega
      have hlti : (k : Int) < (n : Int) := by omega
      obtain ⟨ad, hAd, _, hcell⟩ := (HV.out.below hbr).at hkl
      subst hAd
      obtain ⟨u, hu⟩ : ∃ u, u = us[k] := ⟨_, rfl⟩
      have hcx : wr.cell? (ad.add k) = some (.int .u64 (u : Int)) := by rw [hcell, hu]; rfl
      have hgd : us.getD k 0 = u := by rw [List.getD_eq_getElem?_getD, List.getElem?_eq_getElem hkl, hu]; rfl
      have hu64 : u < 18446744073709551616 := by rw [hu]; exact H64.out _ (List.getElem_mem hkl)
      obtain ⟨q, hq⟩ : ∃ q, q = u / 2 ^ W0 := ⟨_, rfl⟩
      have hsh : (u : Int) / 2 ^ W0 = (q : Int) := by rw [hq]; simp
      have hlast := pst_last W0 us k
      have hpl := pst_len W0 us k
      obtain ⟨last, hla⟩ : ∃ last, last = (pst W0 us k).2 := ⟨_, rfl⟩
      obtain ⟨ps, hps⟩ : ∃ ps, ps = (pst W0 us k).1 := ⟨_, rfl⟩
      rw [← hla] at hlast hpl
      rw [← hps] at hg hp hpl
      rw [← hla]
      have hplb : ps.length ≤ 20000 := by omega
      have HLA := Lib.hid hla
      have HPS := Lib.hid hps
      have HGD := Lib.hid hgd
      have HQ := Lib.hid hq
      clear hcell hu hgd hu64 hq hla hps hpl
      by_cases hq0 : q = 0
      · have HSK : Hid (pst W0 us (k + 1) = pst W0 us k) := Lib.hid (pst_skip (by rw [HGD.out, ← HQ.out, hq0]))
        have hrel : PairsRel us W0 w u6 u7 (.int .i64 (last : Int)) (.int .i64 ((k : Int) + 1)) wr := ⟨k + 1, hkl, by rw [Int.natCast_add]; rfl, by rw [HSK.out, HLA.out], by rw [HSK.out, ← HPS.out]; exact hg, by rw [HSK.out, ← HPS.out]; exact hp, hbr⟩
        have HREL := Lib.hid hrel
        have hsz : (u : Int) / 2 ^ W0 = 0 := by rw [hsh, hq0]; rfl
        clear hrel hsh hg hp hbr hq0
        go_wp2
        go_roundw
        case rel => exact HREL.out
        case measure => simp [intOf]; omega
      · obtain ⟨j, hj⟩ : ∃ j, j = (k - last - 1) / 255 := ⟨_, rfl⟩
        have HMO : Hid (pst W0 us (k + 1) = (ps ++ (List.replicate j (255, 0) ++ [(k - last - 255 * j, q)]), k)) := Lib.hid (by rw [pst_more (by rw [HGD.out, ← HQ.out]; exact hq0), ← HLA.out, ← HPS.out, ← hj, HGD.out, ← HQ.out])
        have hq1 : ((q : Int) == 0) = false := by rw [beq_eq_false_iff_ne]; omega
        have hst : PFillRel ps last j w u6 u7 (.int .i64 (last : Int)) wr := ⟨0, by omega, rfl, by simpa using hg, by simpa using hp, hbr⟩
        have HST := Lib.hid hst
        have HJ := Lib.hid hj
        have hjb : j ≤ 10000 := by omega
        clear hst hg hp hbr hj hq0
        go_wp2
        clear hcx
        go_loopw [6, 7, 8] (PFillRel ps last j w) (fun _ _ l _ => k - (intOf l).toNat)
        case atStart => exact HST.out
        case round =>
          obtain ⟨i, hi, rfl, hg, hp, hbr⟩ := hrel
          have HSTT2 := HST
          clear HST
          have hz := hbr.size
          obtain ⟨L, hL⟩ : ∃ L, L = last + 255 * i := ⟨_, rfl⟩
          rw [← hL]
          obtain ⟨d, hd⟩ : ∃ d, d = k - L := ⟨_, rfl⟩
          have hLk : L ≤ k := by have := HJ.out; omega
          have hdi : (k : Int) - (L : Int) = (d : Int) := by omega
          have hdw : IntKind.i64.wrap (d : Int) = (d : Int) := by rw [IntKind.wrap_i64]; omega
          have HL := Lib.hid hL
          have HD := Lib.hid hd
          clear hL hd
          by_cases hij : i < j
          · have hd5 : (255 : Int) < (d : Int) := by have := HJ.out; have := HL.out; have := HD.out; omega
            have hLw : IntKind.i64.wrap ((L : Int) + 255) = (L : Int) + 255 := by rw [IntKind.wrap_i64]; omega
            go_wp2_with (at_builtin; refine wpList_push elemI rfl _ _ rfl w.heap.size _ _ _ (.int .i64 255) wr w rfl rfl rfl rfl hg hbr hz (by omega) (by omega) ?_)
            intro v5 w5 hg5 hb5 hgr5 _
            have hp5 := own_other hp hg (by decide) hgr5
            have hz5 := hb5.size
            clear hp hg hgr5
            go_wp2_with (at_builtin; refine wpList_push elemU rfl _ _ rfl w.heap.size _ _ _ (.int .u64 0) w5 w rfl rfl rfl rfl hp5 hb5 hz5 (by omega) (by omega) ?_)
            intro v6 w6 hp6 hb6 hgr6 _
            have hg6 := own_other hg5 hp5 (by decide) hgr6
            have hrel : PFillRel ps last j w v5 v6 (.int .i64 ((L : Int) + 255)) w6 := by
              refine ⟨i + 1, hij, ?_, ?_, ?_, hb6⟩
              · congr 1; have := HL.out; omega
              · rw [List.replicate_succ', ← List.append_assoc, pgaps, List.map_append, List.map_append]
                exact hg6
              · rw [List.replicate_succ', ← List.append_assoc, ppats, List.map_append, List.map_append]
                exact hp6
            have HREL := Lib.hid hrel
            clear hp6 hg6 hp5 hg5 hrel hb6 hb5 hgr6
            go_wp2
            go_roundw
            case rel => exact HREL.out
            case measure => simp [intOf]; have := HL.out; omega
          · obtain rfl : i = j := by omega
            have hd5 : ¬ (255 : Int) < (d : Int) := by have := HJ.out; have := HL.out; have := HD.out; omega
            go_wp2_with (at_builtin; refine wpList_push elemI rfl _ _ rfl w.heap.size _ _ _ (.int .i64 (d : Int)) wr w rfl rfl rfl rfl hg hbr hz (by omega) (by omega) ?_)
            intro v5 w5 hg5 hb5 hgr5 _
            have hp5 := own_other hp hg (by decide) hgr5
            have hz5 := hb5.size
            clear hp hg hgr5
            go_wp2_with (at_builtin; refine wpList_push elemU rfl _ _ rfl w.heap.size _ _ _ (.int .u64 (q : Int)) w5 w rfl rfl rfl rfl hp5 hb5 hz5 (by omega) (by omega) ?_)
            intro v6 w6 hp6 hb6 hgr6 _
            have hg6 := own_other hg5 hp5 (by decide) hgr6
            have hrel : PairsRel us W0 w v5 v6 (.int .i64 (k : Int)) (.int .i64 ((k : Int) + 1)) w6 := by
              have hdd : k - last - 255 * i = d := by have := HL.out; have := HD.out; omega
              have hlen : (ps ++ (List.replicate i (255, 0) ++ [(d, q)])).length = ps.length + i + 1 := by simp; omega
              refine ⟨k + 1, hkl, by rw [Int.natCast_add]; rfl, by rw [HMO.out], ?_, ?_, hb6⟩
              · rw [HMO.out, hdd]
                dsimp only
                rw [hlen, ← List.append_assoc, pgaps, List.map_append, List.map_append]
                exact hg6
              · rw [HMO.out, hdd]
                dsimp only
                rw [hlen, ← List.append_assoc, ppats, List.map_append, List.map_append]
                exact hp6
            have HREL := Lib.hid hrel
            clear hp6 hg6 hp5 hg5 hrel hb6 hb5 hgr6
            go_wp2
            go_roundw
            case rel => exact HREL.out
            case measure => simp [intOf]; omega
    · obtain rfl : n = k := by omega
      have hlti : ¬ (n : Int) < (n : Int) := by omega
      have HE : Hid ((pst W0 us n).1 = ppairs W0 us) := Lib.hid (by unfold ppairs; rw [HN.out])
      rw [HE.out] at hg hp
      have HG := Lib.hid (isV_own hg)
      have HP := Lib.hid (isV_own hp)
      have HBR := Lib.hid hbr
      clear hg hp hbr
      go_wp2
      go_ret2
      exact ⟨_, _, rfl, HG.out, HP.out, HBR.out⟩
theorem be_get : ∀ (m N j : Nat) (h : j < (be m N).length), (be m N)[j] = UInt8.ofNat (N / 256 ^ (m - 1 - j) % 256)
  | m + 1, N, 0, _ => by simp [be]
  | m + 1, N, j + 1, h => by
    have h' : j < (be m N).length := by simpa [be] using h
    have := be_get m N j h'
    simp only [be, List.getElem_cons_succ]
    rw [this, show m + 1 - 1 - (j + 1) = m - 1 - j by omega]
/-- The highest byte bears the sign. -/
theorem be_signed {n S b0 : Nat} (h1 : 1 ≤ n) (hS : S < 2 ^ (8 * n - 1)) (hb : b0 = S / 256 ^ (n - 1) % 256) : b0 < 128 ∧ (be n S).set 0 (UInt8.ofNat (b0 + 128)) = be n (S + 2 ^ (8 * n - 1)) := by
  have hp : 2 ^ (8 * n - 1) = 128 * 256 ^ (n - 1) := by rw [p256, show 8 * n - 1 = 7 + 8 * (n - 1) by omega, Nat.pow_add]
  have hpos : 0 < 256 ^ (n - 1) := Nat.pow_pos (by omega)
  have hlt : S / 256 ^ (n - 1) < 128 := by rw [Nat.div_lt_iff_lt_mul hpos, ← hp]; exact hS
  have hb1 : b0 < 128 := by rw [hb]; exact Nat.lt_of_le_of_lt (Nat.mod_le _ _) hlt
  refine ⟨hb1, eq_be (by rw [List.length_set, be_len]) ?_⟩
  have hl : 0 < (be n S).length := by rw [be_len]; omega
  have h2 := bval_set (be n S) 0 (UInt8.ofNat (b0 + 128)) hl
  rw [be_get n S 0 hl, be_len, Nat.sub_zero, ← hb] at h2
  have e1 : (UInt8.ofNat b0).toNat = b0 := byte_low (by omega)
  have e2 : (UInt8.ofNat (b0 + 128)).toNat = b0 + 128 := byte_low (by omega)
  have h3 : bval (be n S) = S := by
    rw [bval_be, Nat.mod_eq_of_lt]
    rw [p256, show 8 * n = (8 * n - 1) + 1 by omega, Nat.pow_succ]
    omega
  rw [e1, e2, h3, Nat.add_mul] at h2
  rw [hp]
  omega
def BasedRel (n S : Nat) (w : World) (v i : Value) (wr : World) : Prop :=
  ∃ j : Nat, j ≤ n ∧ i = .int .i64 ((n : Int) - 1 - (j : Int)) ∧ wr.ownsRow w.heap.size 5 1 v j (((be n S).take j).map bv) ∧ Below w.heap.size w wr
set_option maxHeartbeats 2000000 in
set_option maxRecDepth 100000 in
theorem rbased_any (base : Int) (w : World) (hb : inInt base) (hne : base ≠ -9223372036854775808) : Calls Tryd.prog 35 #[.int .i64 base] w (RetOwn w (pbased base)) := by
  obtain ⟨hs, hlt⟩ := psize_base hb hne
  obtain ⟨n1, n8, hS8⟩ := pn_bd hlt
  obtain ⟨S, hS⟩ : ∃ S, S = psize base := ⟨_, rfl⟩
  obtain ⟨n, hn⟩ : ∃ n, n = pn base := ⟨_, rfl⟩
  obtain ⟨f, hf⟩ : ∃ f, f = decide (base < 0) := ⟨_, rfl⟩
  have hg : gdiff 0 base = (S, f, true) := by
    unfold inInt at hb
    rw [hS, hf]
    unfold psize
    rcases gdiff_cases 0 base with ⟨_, k⟩ | ⟨k1, _, k⟩ | ⟨k1, _, k⟩
    · omega
    · rw [k, decide_eq_true k1]
    · rw [k, decide_eq_false (by omega)]
  have HD := Lib.hid (fun W => pdiff_q 0 base S f true W ⟨by omega, by omega⟩ hb hg)
  have hpb : pbased base = be n (S + if f = true then 2 ^ (8 * n - 1) else 0) := by
    unfold pbased
    rw [← hS, ← hn]
    congr 2
    rw [hf]
    by_cases h : base < 0
    · rw [if_pos h, if_pos (by simpa using h)]
    · rw [if_neg h, if_neg (by simpa using h)]
  obtain ⟨B, hB⟩ : ∃ B, B = wbits S := ⟨_, rfl⟩
  have HBI := Lib.hid (fun W => rbits_any S W (by rw [hS]; show psize base < 18446744073709551616; omega))
  rw [← hB] at HBI
  obtain ⟨Q, hQ⟩ : ∃ Q, Q = B / 8 := ⟨_, rfl⟩
  have hnq : n = Q + 1 := by rw [hn, hQ, hB, hS]; rfl
  have hBq : (B : Int) / 8 = (Q : Int) := by omega
  rw [← hn] at n1 n8 hS8
  rw [← hS] at hS8
  have HPB := Lib.hid hpb
  have HS8 := Lib.hid hS8
  have hQ8 : Q ≤ 7 := by omega
  have hst : BasedRel n S w (.slice (some ⟨w.heap.size, 0, none⟩) 0 0) (.int .i64 (Q : Int)) (w.alloc (.cells #[] 5)) := ⟨0, by omega, by congr 1; omega, by simpa using own_made w 5, (Below.refl _ _).alloc (Nat.le_refl _) _⟩
  have HST := Lib.hid hst
  have HNQ := Lib.hid hnq
  clear hs hlt hS hn hf hg hpb hB hQ hnq hS8 hst hb hne
  go_enter Tryd.func35, Tryd.ntmps35
  go_wp2_with (first | (go_at_call 60; refine (HD.out _).mono ?_; rintro e w' ⟨rfl, rfl⟩) | (go_at_call 32; refine (HBI.out _).mono ?_; rintro e w' ⟨rfl, rfl⟩))
  go_loopw [7, 8] (BasedRel n S w) (fun _ i _ => (intOf i + 1).toNat)
  case atStart => exact HST.out
  case round =>
    obtain ⟨j, hj, rfl, hown, hbr⟩ := hrel
    have HSTT := HST
    clear HST
    have hz := hbr.size
    by_cases hlt : j < n
    · obtain ⟨I, hI⟩ : ∃ I, I = n - 1 - j := ⟨_, rfl⟩
      rw [show (n : Int) - 1 - (j : Int) = (I : Int) by omega]
      have hI7 : I ≤ 7 := by omega
      obtain ⟨T, hT⟩ : ∃ T, T = S / 2 ^ (8 * I) := ⟨_, rfl⟩
      obtain ⟨M, hM⟩ : ∃ M, M = 8 * I := ⟨_, rfl⟩
      have hMi : 8 * (I : Int) = (M : Int) := by omega
      have hMw : IntKind.i64.wrap (M : Int) = (M : Int) := by rw [IntKind.wrap_i64]; omega
      have hsh : (S : Int) / 2 ^ M = (T : Int) := by rw [hT, hM]; simp
      obtain ⟨C, hC⟩ : ∃ C, C = T % 256 := ⟨_, rfl⟩
      have hCw : IntKind.u8.wrap (T : Int) = (C : Int) := by rw [IntKind.wrap_u8]; omega
      have hTm : (T : Int) % 256 = (C : Int) := by omega
      have hjl : j < (be n S).length := by rw [be_len]; exact hlt
      have hnx : (be n S).take (j + 1) = (be n S).take j ++ [UInt8.ofNat C] := by rw [List.take_succ_eq_append_getElem hjl, be_get, ← hI, p256, ← hT, ← hC]
      have hbv : Value.int .u8 (C : Int) = bv (UInt8.ofNat C) := bv_low7 (by omega)
      have HNX := Lib.hid hnx
      have HBV := Lib.hid hbv
      have hM64 : M < 64 := by omega
      have hI0 : (0 : Int) ≤ (I : Int) := by omega
      have HI := Lib.hid hI
      clear hT hC hnx hbv hjl hI hM
      go_wp2_with (at_builtin; go_must (refine wpList_push elemB rfl _ _ rfl w.heap.size _ _ _ (.int .u8 (C : Int)) wr w rfl rfl rfl rfl hown hbr hz (by omega) (by omega) ?_))
      intro v5 w5 hown5 hb5 _ _
      have hrel : BasedRel n S w v5 (.int .i64 ((I : Int) - 1)) w5 := ⟨j + 1, hlt, by congr 1; have := HI.out; omega, by rw [HNX.out, List.map_append, List.map_singleton, ← HBV.out, List.map_take]; exact hown5, hb5⟩
      have HREL := Lib.hid hrel
      have hIw : IntKind.i64.wrap ((I : Int) - 1) = (I : Int) - 1 := by rw [IntKind.wrap_i64]; omega
      clear hrel hown5 hown hb5
      go_wp2
      go_roundw
      case rel => exact HREL.out
      case measure => simp [intOf]
    · obtain rfl : n = j := by omega
      rw [show (n : Int) - 1 - (n : Int) = -1 by omega]
      rw [List.take_of_length_le (by rw [be_len]; omega)] at hown
      cases f with
      | false =>
        have HE : Hid (pbased base = be n S) := Lib.hid (by rw [HPB.out]; rfl)
        have HO := Lib.hid hown
        clear hown
        go_wp2
        go_ret
        rw [HE.out]
        exact ⟨_, rfl, by rw [be_len]; exact HO.out, hbr⟩
      | true =>
        have HE : Hid (pbased base = be n (S + 2 ^ (8 * n - 1))) := Lib.hid (by rw [HPB.out]; rfl)
        obtain ⟨b0, hb0⟩ : ∃ b0, b0 = S / 256 ^ (n - 1) % 256 := ⟨_, rfl⟩
        obtain ⟨hb1, hbe⟩ := be_signed n1 HS8.out hb0
        obtain ⟨g, cap, hv, hgw⟩ : ∃ g cap, u7 = .slice (some ⟨g, 0, none⟩) n cap ∧ w.heap.size ≤ g := by
          rcases hown.2 with ⟨_, h0⟩ | ⟨g, cap, _, h, hg, _⟩
          · omega
          · exact ⟨g, cap, h, hg⟩
        subst hv
        have hc0 : wr.cell? ⟨g, 0, none⟩ = some (.int .u8 (b0 : Int)) := by
          rw [hown.cellAt 0 (by omega), List.getElem?_map, List.getElem?_eq_getElem (by rw [be_len]; omega), be_get, Nat.sub_zero, ← hb0]
          show some (bv (UInt8.ofNat b0)) = _
          rw [← bv_low7 (by omega)]
        have hf0 := hown.frozenAt 0
        obtain ⟨C, hC⟩ : ∃ C, C = b0 + 128 := ⟨_, rfl⟩
        have hCi : (b0 : Int) + 128 = (C : Int) := by omega
        have hCw : IntKind.u8.wrap (C : Int) = (C : Int) := by rw [IntKind.wrap_u8]; omega
        have hst := (hown.stored 0 (.int .u8 (C : Int))).1
        have hmap : ((be n S).map bv).set 0 (.int .u8 (C : Int)) = (be n (S + 2 ^ (8 * n - 1))).map bv := by rw [bv_low7 (by omega), ← List.map_set, hC, hbe]
        rw [hmap] at hst
        have HO := Lib.hid hst
        have HB := Lib.hid (hbr.setCell (p := ⟨g, 0, none⟩) hgw (.int .u8 (C : Int)))
        have hn0 : (0 : Int) < (n : Int) := by omega
        clear hst hmap hown hb0 hbe hC hbr
        go_wp2
        go_ret
        rw [HE.out]
        exact ⟨_, rfl, by rw [be_len]; exact HO.out, HB.out⟩
end Go.Proofs.YtdcgkjcefbceeaaDoor

/- The contract of layer 10's reference's Put. -/





namespace Go.Proofs.YtdcgkjcefbceeaaDoor

open Go.RowKit

theorem pputE_no {l : List Int} {W : Int} {s : Bool} (h : dplain l s = none ∨ l.length < 1 ∨ 512 < l.length ∨ wcode W < 0 ∨ 64 ≤ W) : pputE l W s = ([], 1) := by unfold pputE; rw [if_pos h]
theorem pputE_ups {l : List Int} {W : Int} {s : Bool} (h : pups l = none) : pputE l W s = ([], 1) := by unfold pputE; split <;> simp [h]
theorem pputE_some {l : List Int} {W : Nat} {s : Bool} {us : List Nat} (h0 : dplain l s ≠ none) (h1 : 1 ≤ l.length) (h2 : l.length ≤ 512) (h3 : 0 ≤ wcode (W : Int)) (h4 : W < 64) (h : pups l = some us) :
    pputE l W s = if pbase l = -9223372036854775808 ∨ 31 < (ppairs W us).length ∨ 64 < pgw (ppairs W us) + ppw (ppairs W us) ∨ 64 < W + ppw (ppairs W us) then ([], 1) else (play (pbase l) us W, 0) := by
  unfold pputE
  rw [if_neg (by rintro (h | h | h | h | h) <;> first | exact h0 h | omega), h, Int.toNat_natCast]
theorem wcode_range {W : Int} (h : 0 ≤ wcode W) : 1 ≤ W ∧ W ≤ 64 := by
  obtain ⟨h1, h2⟩ := wcode_back h
  obtain ⟨c, hc⟩ := Int.eq_ofNat_of_zero_le h
  rw [hc] at h1 h2
  have h3 := wback ⟨c, by omega⟩
  dsimp only at h3
  have h4 := wof_bd (c : Int)
  rw [h1] at h3 h4
  omega
def RowRel (L : List Nat) (w : World) (v i : Value) (wr : World) : Prop := ∃ k : Nat, k ≤ L.length ∧ i = .int .i64 (k : Int) ∧ wr.ownsRow w.heap.size 62 1 v k ((L.take k).map uv) ∧ Below w.heap.size w wr
def GRel (ps : List (Nat × Nat)) (w : World) (g i : Value) (wr : World) : Prop := ∃ k : Nat, k ≤ ps.length ∧ i = .int .i64 (k : Int) ∧ g = .int .i64 ((max 1 (wmost ((ps.map (·.1)).take k)) : Nat) : Int) ∧ wr = w
set_option maxHeartbeats 8000000 in
set_option maxRecDepth 100000 in
theorem rput10_any (l : List Int) (v : Value) (Wi : Int) (s : Bool) (w : World) (hv : IsV iv l v w) (hl : ∀ x ∈ l, inInt x) (hb : l.length ≤ 1000000) :
    Calls Tryd.prog 10 #[v, .int .i64 Wi, .bool s] w (RetE w (pputE l Wi s)) := by
  have HP := Lib.hid (rplain8_any l v s w hv hl hb)
  have HVV := Lib.hid hv
  obtain ⟨A, n, c, rfl⟩ := hv.shape
  have hn := hv.parts.1
  have HN := Lib.hid hn
  have HL := Lib.hid hl
  clear hv
  cases hd : dplain l s with
  | none =>
    have hE := Lib.hid (pputE_no (W := Wi) (.inl hd))
    have hpe : dplainE l s = ([], 1) := by unfold dplainE; rw [hd]
    rw [hpe] at HP
    clear hn hd hpe hl hb
    go_enter Tryd.func10, Tryd.ntmps10
    go_wp2_with fail
    refine HP.out.mono ?_
    rintro e w1 ⟨u, rfl, hu, hb1⟩
    obtain ⟨A1, c1, rfl, _⟩ := hu
    have HB := Lib.hid hb1
    have HV := Lib.hid (HVV.out.below hb1)
    clear hb1
    go_wp2_with (go_at_call 29; refine (rcode_any _ _).mono ?_; rintro e w' ⟨rfl, rfl⟩)
    go_ret2
    rw [hE.out]
    exact RetE.nil _ HB.out
  | some dl =>
    have hpe : dplainE l s = (dl, 0) := by unfold dplainE; rw [hd]
    rw [hpe] at HP
    by_cases h1 : n < 1
    · have hE := Lib.hid (pputE_no (l := l) (W := Wi) (s := s) (.inr (.inl (by omega))))
      have d1 : decide ((n : Int) < 1) = true := decide_eq_true (by omega)
      clear hn hd hpe hl hb
      go_enter Tryd.func10, Tryd.ntmps10
      go_wp2_with fail
      refine HP.out.mono ?_
      rintro e w1 ⟨u, rfl, hu, hb1⟩
      obtain ⟨A1, c1, rfl, _⟩ := hu
      have HB := Lib.hid hb1
      have HV := Lib.hid (HVV.out.below hb1)
      clear hb1
      go_wp2_with (go_at_call 29; refine (rcode_any _ _).mono ?_; rintro e w' ⟨rfl, rfl⟩)
      go_ret2
      rw [hE.out]
      exact RetE.nil _ HB.out
    · have d1 : decide ((n : Int) < 1) = false := decide_eq_false (by omega)
      by_cases h5 : 512 < n
      · have hE := Lib.hid (pputE_no (l := l) (W := Wi) (s := s) (.inr (.inr (.inl (by omega)))))
        have d2 : decide ((512 : Int) < (n : Int)) = true := decide_eq_true (by omega)
        clear hn hd hpe hl hb
        go_enter Tryd.func10, Tryd.ntmps10
        go_wp2_with fail
        refine HP.out.mono ?_
        rintro e w1 ⟨u, rfl, hu, hb1⟩
        obtain ⟨A1, c1, rfl, _⟩ := hu
        have HB := Lib.hid hb1
        have HV := Lib.hid (HVV.out.below hb1)
        clear hb1
        go_wp2_with (go_at_call 29; refine (rcode_any _ _).mono ?_; rintro e w' ⟨rfl, rfl⟩)
        go_ret2
        rw [hE.out]
        exact RetE.nil _ HB.out
      · have d2 : decide ((512 : Int) < (n : Int)) = false := decide_eq_false (by omega)
        by_cases hc : wcode Wi < 0
        · have hE := Lib.hid (pputE_no (l := l) (s := s) (.inr (.inr (.inr (.inl hc)))))
          have d3 : decide (wcode Wi < 0) = true := decide_eq_true hc
          clear hn hd hpe hl hb hc
          go_enter Tryd.func10, Tryd.ntmps10
          go_wp2_with fail
          refine HP.out.mono ?_
          rintro e w1 ⟨u, rfl, hu, hb1⟩
          obtain ⟨A1, c1, rfl, _⟩ := hu
          have HB := Lib.hid hb1
          have HV := Lib.hid (HVV.out.below hb1)
          clear hb1
          go_wp2_with (go_at_call 29; refine (rcode_any _ _).mono ?_; rintro e w' ⟨rfl, rfl⟩)
          go_ret2
          rw [hE.out]
          exact RetE.nil _ HB.out
        · have d3 : decide (wcode Wi < 0) = false := decide_eq_false hc
          by_cases h64 : 64 ≤ Wi
          · have hE := Lib.hid (pputE_no (l := l) (s := s) (.inr (.inr (.inr (.inr h64)))))
            have d4 : decide ((64 : Int) ≤ Wi) = true := decide_eq_true h64
            clear hn hd hpe hl hb hc h64
            go_enter Tryd.func10, Tryd.ntmps10
            go_wp2_with fail
            refine HP.out.mono ?_
            rintro e w1 ⟨u, rfl, hu, hb1⟩
            obtain ⟨A1, c1, rfl, _⟩ := hu
            have HB := Lib.hid hb1
            have HV := Lib.hid (HVV.out.below hb1)
            clear hb1
            go_wp2_with (go_at_call 29; refine (rcode_any _ _).mono ?_; rintro e w' ⟨rfl, rfl⟩)
            go_ret2
            rw [hE.out]
            exact RetE.nil _ HB.out
          · have d4 : decide ((64 : Int) ≤ Wi) = false := decide_eq_false h64
            obtain ⟨W, rfl⟩ := Int.eq_ofNat_of_zero_le (show 0 ≤ Wi by have := wcode_range (W := Wi) (by omega); omega)
            have hW1 := wcode_range (W := (W : Int)) (by omega)
            have hW64 : W < 64 := by omega
            have HN1 : Hid (1 ≤ l.length) := Lib.hid (by omega)
            have hn5 : n ≤ 512 := by omega
            have HDN : Hid (dplain l s ≠ none) := Lib.hid (by rw [hd]; exact fun h => nomatch h)
            have HWC : Hid (0 ≤ wcode (W : Int)) := Lib.hid (by omega)
            cases hu : pups l with
            | none =>
              have hE := Lib.hid (pputE_ups (W := (W : Int)) (s := s) hu)
              have HAB : Hid (paboveE l = (0, [], false)) := Lib.hid (by unfold paboveE; rw [hu])
              clear hn hd hpe hl hb hu hc h64 hW1
              go_enter Tryd.func10, Tryd.ntmps10
              go_wp2_with fail
              refine HP.out.mono ?_
              rintro e w1 ⟨u, rfl, hu, hb1⟩
              obtain ⟨A1, c1, rfl, _⟩ := hu
              have HB := Lib.hid hb1
              have HV := Lib.hid (HVV.out.below hb1)
              clear hb1
              go_wp2_with (go_at_call 29; refine (rcode_any _ _).mono ?_; rintro e w' ⟨rfl, rfl⟩)
              refine (rabove_any l _ w1 HV.out HL.out HN1.out (by have := HN.out; omega)).mono ?_
              rw [HAB.out]
              rintro e w2 ⟨uv2, rfl, huv2, hb2⟩
              have HB := Lib.hid (below_then HB.out hb2)
              have HU2 := Lib.hid huv2
              clear hb2 huv2
              go_wp2
              go_ret2
              rw [hE.out]
              exact RetE.nil _ HB.out
            | some us =>
              have HES := Lib.hid (pputE_some (s := s) HDN.out (by omega) (by omega) HWC.out hW64 hu)
              have HAB : Hid (paboveE l = (pbase l, us, pbase l != -9223372036854775808)) := Lib.hid (by unfold paboveE; rw [hu])
              have HUL : Hid (us.length = n) := Lib.hid (by rw [pups_len hu]; exact hn)
              have H64 : Hid (∀ u ∈ us, u < 2 ^ 64) := Lib.hid fun u h => by have := pups_lt hl hu u h; show u < 18446744073709551616; omega
              obtain ⟨base, hba⟩ : ∃ base, base = pbase l := ⟨_, rfl⟩
              rw [← hba] at HES HAB
              have HBI0 : Hid (inInt base) := Lib.hid (by rw [hba]; exact hl _ (pbase_mem (by omega)))
              by_cases hne : base = -9223372036854775808
              · have hE : Hid (pputE l W s = ([], 1)) := Lib.hid (by rw [HES.out, if_pos (.inl hne)])
                have HAB2 : Hid (paboveE l = (base, us, false)) := Lib.hid (by rw [HAB.out, hne]; rfl)
                have HAB := HAB2
                clear hn hd hpe hl hb hu hc h64 hW1 hba hne HAB2
                go_enter Tryd.func10, Tryd.ntmps10
                go_wp2_with fail
                refine HP.out.mono ?_
                rintro e w1 ⟨u, rfl, hu, hb1⟩
                obtain ⟨A1, c1, rfl, _⟩ := hu
                have HB := Lib.hid hb1
                have HV := Lib.hid (HVV.out.below hb1)
                clear hb1
                go_wp2_with (go_at_call 29; refine (rcode_any _ _).mono ?_; rintro e w' ⟨rfl, rfl⟩)
                refine (rabove_any l _ w1 HV.out HL.out HN1.out (by have := HN.out; omega)).mono ?_
                rw [HAB.out]
                rintro e w2 ⟨uv2, rfl, huv2, hb2⟩
                have HB := Lib.hid (below_then HB.out hb2)
                have HU2 := Lib.hid huv2
                clear hb2 huv2
                go_wp2
                go_ret2
                rw [hE.out]
                exact RetE.nil _ HB.out
              · have HAB2 : Hid (paboveE l = (base, us, true)) := Lib.hid (by rw [HAB.out, show (base != -9223372036854775808) = true by simpa using hne])
                have HAB := HAB2
                have HNE : Hid (base ≠ -9223372036854775808) := Lib.hid hne
                have HN8 : Hid (1 ≤ pn base ∧ pn base ≤ 8) := Lib.hid (by have := pn_bd (psize_base HBI0.out hne).2; omega)
                obtain ⟨g1, g8, p1, p64, pc, pcc, p31, pw, hq⟩ := ppairs_ok (w := W) H64.out
                have hq2 := (ppw_ok (w := W) H64.out).2.2
                have hpl := pst_len W us us.length
                have hpl2 := pst_last W us us.length
                obtain ⟨ps, hps⟩ : ∃ ps, ps = ppairs W us := ⟨_, rfl⟩
                rw [show (pst W us us.length).1 = ps from hps.symm] at hpl
                rw [← hps] at g1 g8 p1 p64 pc pcc p31 pw hq hq2 HES
                have HPS := Lib.hid hps.symm
                have HPL : Hid (ps.length ≤ 1030) := Lib.hid (by have := HUL.out; omega)
                have HQ := Lib.hid hq2
                have HQ2 := Lib.hid hq
                obtain ⟨G, hG⟩ : ∃ G, G = pgw ps := ⟨_, rfl⟩
                obtain ⟨P, hP⟩ : ∃ P, P = ppw ps := ⟨_, rfl⟩
                obtain ⟨CP, hCP⟩ : ∃ CP, CP = pcode P := ⟨_, rfl⟩
                obtain ⟨CW, hCW⟩ : ∃ CW, CW = pcode W := ⟨_, rfl⟩
                have hcb := pcode_back HWC.out
                rw [← hCW] at hcb
                rw [← hG] at g1 g8 HES
                rw [← hP] at p1 p64 pc pcc p31 HES
                rw [← hCP] at pcc p31
                have HG := Lib.hid hG
                have HGG := Lib.hid hG.symm
                have HPP := Lib.hid hP.symm
                have HCPP := Lib.hid hCP.symm
                have HCWE := Lib.hid hcb.2.2
                have HC31 := Lib.hid hcb.2.1
                have HCWD := Lib.hid hCW
                have HCPE := Lib.hid pcc
                have HP64 : Hid (∀ x ∈ ppats ps, x < 2 ^ 64) := Lib.hid fun x hx => by
                  obtain ⟨q, hm, rfl⟩ := List.mem_map.1 hx
                  exact (HQ.out q hm).2
                obtain ⟨M, hM⟩ : ∃ M, M = wmost (ppats ps) := ⟨_, rfl⟩
                have hpc : wclosest ((max 1 M : Nat) : Int) = (P : Int) := by rw [hM]; exact pc
                obtain ⟨X1, hX1⟩ : ∃ X1, X1 = max 1 M := ⟨_, rfl⟩
                rw [← hX1] at hpc
                have hmaxm : ∀ (ts : Array TypeId) (t : TypeId) (W : World), (Builtin.max_ ts t #[.int .i64 1, .int .i64 (M : Int)]).run Tryd.prog W = .ok (.int .i64 (X1 : Int)) W := fun ts t W => by
                  rw [run_max_int2]
                  congr 2
                  split <;> omega
                rw [hM] at hmaxm
                have HCL := Lib.hid (fun X => rclosest_any (X1 : Int) X)
                rw [hpc] at HCL
                obtain ⟨GP, hGP⟩ : ∃ GP, GP = G + P := ⟨_, rfl⟩
                have hGPi : (G : Int) + (P : Int) = (GP : Int) := by omega
                obtain ⟨WP, hWP⟩ : ∃ WP, WP = W + P := ⟨_, rfl⟩
                have hWPi : (W : Int) + (P : Int) = (WP : Int) := by omega
                rw [← hGP, ← hWP] at HES
                clear hn hd hpe hl hb hu hc h64 hba hne HAB2 hps hG hP hCP hCW hcb pcc pc pw hq hq2 hpl hpl2 hM hX1 hpc hGP hWP
                by_cases h31 : 31 < ps.length
                · have hE : Hid (pputE l W s = ([], 1)) := Lib.hid (by rw [HES.out, if_pos (.inr (.inl h31))])
                  go_enter Tryd.func10, Tryd.ntmps10
                  go_wp2_with fail
                  refine HP.out.mono ?_
                  rintro e w1 ⟨u, rfl, hu, hb1⟩
                  obtain ⟨A1, c1, rfl, _⟩ := hu
                  have HB := Lib.hid hb1
                  have HV := Lib.hid (HVV.out.below hb1)
                  clear hb1
                  go_wp2_with (go_at_call 29; refine (rcode_any _ _).mono ?_; rintro e w' ⟨rfl, rfl⟩)
                  refine (rabove_any l _ w1 HV.out HL.out HN1.out (by have := HN.out; omega)).mono ?_
                  rw [HAB.out]
                  rintro e w2 ⟨uv2, rfl, huv2, hb2⟩
                  have HB := Lib.hid (below_then HB.out hb2)
                  have HU2 := Lib.hid huv2
                  clear hb2 huv2
                  go_wp2_with fail
                  refine (rpairs_any us uv2 W w2 HU2.out H64.out (by have := HUL.out; omega) (by omega)).mono ?_
                  rw [HPS.out]
                  rintro e w3 ⟨gv, pv, rfl, hgv, hpv, hb3⟩
                  have HB := Lib.hid (below_then HB.out hb3)
                  have HU3 := Lib.hid (HU2.out.below hb3)
                  have HG3 := Lib.hid hgv
                  have HP3 := Lib.hid hpv
                  clear hb3 hgv hpv
                  obtain ⟨Ag, ng, cg, rfl⟩ := HG3.out.shape
                  have hng := HG3.out.parts.1
                  have HNG := Lib.hid (show ps.length = ng by rw [← hng]; simp [pgaps])
                  have hngb : ng ≤ 2000 := by have := HNG.out; have := HPL.out; omega
                  clear hng
                  go_wp2
                  go_loopw [15, 16] (GRel ps w3) (fun _ i _ => ng - (intOf i).toNat)
                  case atStart => exact ⟨0, by omega, rfl, rfl, rfl⟩
                  case round =>
                    obtain ⟨k, hk, rfl, rfl, rfl⟩ := hrel
                    have hk' : k ≤ ng := by have := HNG.out; omega
                    by_cases hlt : k < ng
                    · have hkl : k < (pgaps ps).length := by have := HNG.out; rw [pgaps, List.length_map]; omega
                      have hkp : k < ps.length := by have := HNG.out; omega
                      have hlti : (k : Int) < (ng : Int) := by omega
                      obtain ⟨adg, hAd, _, hcell⟩ := HG3.out.at hkl
                      subst hAd
                      obtain ⟨x, hx⟩ : ∃ x, x = ps[k].1 := ⟨_, rfl⟩
                      have hcx : wr.cell? (adg.add k) = some (.int .i64 (x : Int)) := by rw [hcell, hx]; simp [pgaps, iv]
                      have hx8 : x ≤ 255 := by rw [hx]; exact (HQ.out _ (List.getElem_mem hkp)).1
                      have hxw : IntKind.u64.wrap (x : Int) = (x : Int) := by rw [IntKind.wrap_u64]; omega
                      have HBI := Lib.hid (fun W => rbits_any x W (Nat.lt_of_le_of_lt hx8 (by decide)))
                      have HX := Lib.hid hx
                      obtain ⟨b, hb⟩ : ∃ b, b = wbits x := ⟨_, rfl⟩
                      rw [← hb] at HBI
                      obtain ⟨g0, hg0⟩ : ∃ g0, g0 = max 1 (wmost ((ps.map (·.1)).take k)) := ⟨_, rfl⟩
                      rw [← hg0]
                      obtain ⟨g1, hg1⟩ : ∃ g1, g1 = max g0 b := ⟨_, rfl⟩
                      have hmax : ∀ (ts : Array TypeId) (t : TypeId) (W : World), (Builtin.max_ ts t #[.int .i64 (g0 : Int), .int .i64 (b : Int)]).run Tryd.prog W = .ok (.int .i64 (g1 : Int)) W := fun ts t W => by
                        rw [run_max_int2]
                        congr 2
                        split <;> omega
                      have HG1 : Hid (g1 = max 1 (wmost ((ps.map (·.1)).take (k + 1)))) := Lib.hid (by rw [hg1, hg0, hb, List.take_succ_eq_append_getElem (by rw [List.length_map]; exact hkp), wmost_snoc, List.getElem_map, ← hx]; omega)
                      clear hcell hx hb hg0 hg1
                      go_wp2_with (go_at_call 32; refine (HBI.out _).mono ?_; rintro e w' ⟨rfl, rfl⟩)
                      go_roundw
                      case rel => exact ⟨k + 1, hkp, by go_num, by rw [HG1.out], rfl⟩
                      case measure => simp [intOf]; omega
                    · obtain rfl : ng = k := by omega
                      have hlti : ¬ (ng : Int) < (ng : Int) := by omega
                      rw [show max 1 (wmost ((ps.map (·.1)).take ng)) = G by rw [List.take_of_length_le (by rw [List.length_map]; have := HNG.out; omega), HG.out]; rfl]
                      have d5 : decide ((31 : Int) < (ng : Int)) = true := decide_eq_true (by have := HNG.out; omega)
                      go_wp2_with (first | (go_at_call 34; refine (rmost_is HP3.out (by rw [ppats, List.length_map]; have := HPL.out; omega) HP64.out).mono ?_; rintro e w' ⟨rfl, rfl⟩) | (go_at_call 33; refine (HCL.out _).mono ?_; rintro e w' ⟨rfl, rfl⟩))
                      go_ret2
                      rw [hE.out]
                      exact RetE.nil _ HB.out
                · by_cases hgp : 64 < GP
                  · have hE : Hid (pputE l W s = ([], 1)) := Lib.hid (by rw [HES.out, if_pos (.inr (.inr (.inl hgp)))])
                    go_enter Tryd.func10, Tryd.ntmps10
                    go_wp2_with fail
                    refine HP.out.mono ?_
                    rintro e w1 ⟨u, rfl, hu, hb1⟩
                    obtain ⟨A1, c1, rfl, _⟩ := hu
                    have HB := Lib.hid hb1
                    have HV := Lib.hid (HVV.out.below hb1)
                    clear hb1
                    go_wp2_with (go_at_call 29; refine (rcode_any _ _).mono ?_; rintro e w' ⟨rfl, rfl⟩)
                    refine (rabove_any l _ w1 HV.out HL.out HN1.out (by have := HN.out; omega)).mono ?_
                    rw [HAB.out]
                    rintro e w2 ⟨uv2, rfl, huv2, hb2⟩
                    have HB := Lib.hid (below_then HB.out hb2)
                    have HU2 := Lib.hid huv2
                    clear hb2 huv2
                    go_wp2_with fail
                    refine (rpairs_any us uv2 W w2 HU2.out H64.out (by have := HUL.out; omega) (by omega)).mono ?_
                    rw [HPS.out]
                    rintro e w3 ⟨gv, pv, rfl, hgv, hpv, hb3⟩
                    have HB := Lib.hid (below_then HB.out hb3)
                    have HU3 := Lib.hid (HU2.out.below hb3)
                    have HG3 := Lib.hid hgv
                    have HP3 := Lib.hid hpv
                    clear hb3 hgv hpv
                    obtain ⟨Ag, ng, cg, rfl⟩ := HG3.out.shape
                    have hng := HG3.out.parts.1
                    have HNG := Lib.hid (show ps.length = ng by rw [← hng]; simp [pgaps])
                    have hngb : ng ≤ 2000 := by have := HNG.out; have := HPL.out; omega
                    clear hng
                    go_wp2
                    go_loopw [15, 16] (GRel ps w3) (fun _ i _ => ng - (intOf i).toNat)
                    case atStart => exact ⟨0, by omega, rfl, rfl, rfl⟩
                    case round =>
                      obtain ⟨k, hk, rfl, rfl, rfl⟩ := hrel
                      have hk' : k ≤ ng := by have := HNG.out; omega
                      by_cases hlt : k < ng
                      · have hkl : k < (pgaps ps).length := by have := HNG.out; rw [pgaps, List.length_map]; omega
                        have hkp : k < ps.length := by have := HNG.out; omega
                        have hlti : (k : Int) < (ng : Int) := by omega
                        obtain ⟨adg, hAd, _, hcell⟩ := HG3.out.at hkl
                        subst hAd
                        obtain ⟨x, hx⟩ : ∃ x, x = ps[k].1 := ⟨_, rfl⟩
                        have hcx : wr.cell? (adg.add k) = some (.int .i64 (x : Int)) := by rw [hcell, hx]; simp [pgaps, iv]
                        have hx8 : x ≤ 255 := by rw [hx]; exact (HQ.out _ (List.getElem_mem hkp)).1
                        have hxw : IntKind.u64.wrap (x : Int) = (x : Int) := by rw [IntKind.wrap_u64]; omega
                        have HBI := Lib.hid (fun W => rbits_any x W (Nat.lt_of_le_of_lt hx8 (by decide)))
                        have HX := Lib.hid hx
                        obtain ⟨b, hb⟩ : ∃ b, b = wbits x := ⟨_, rfl⟩
                        rw [← hb] at HBI
                        obtain ⟨g0, hg0⟩ : ∃ g0, g0 = max 1 (wmost ((ps.map (·.1)).take k)) := ⟨_, rfl⟩
                        rw [← hg0]
                        obtain ⟨g1, hg1⟩ : ∃ g1, g1 = max g0 b := ⟨_, rfl⟩
                        have hmax : ∀ (ts : Array TypeId) (t : TypeId) (W : World), (Builtin.max_ ts t #[.int .i64 (g0 : Int), .int .i64 (b : Int)]).run Tryd.prog W = .ok (.int .i64 (g1 : Int)) W := fun ts t W => by
                          rw [run_max_int2]
                          congr 2
                          split <;> omega
                        have HG1 : Hid (g1 = max 1 (wmost ((ps.map (·.1)).take (k + 1)))) := Lib.hid (by rw [hg1, hg0, hb, List.take_succ_eq_append_getElem (by rw [List.length_map]; exact hkp), wmost_snoc, List.getElem_map, ← hx]; omega)
                        clear hcell hx hb hg0 hg1
                        go_wp2_with (go_at_call 32; refine (HBI.out _).mono ?_; rintro e w' ⟨rfl, rfl⟩)
                        go_roundw
                        case rel => exact ⟨k + 1, hkp, by go_num, by rw [HG1.out], rfl⟩
                        case measure => simp [intOf]; omega
                      · obtain rfl : ng = k := by omega
                        have hlti : ¬ (ng : Int) < (ng : Int) := by omega
                        rw [show max 1 (wmost ((ps.map (·.1)).take ng)) = G by rw [List.take_of_length_le (by rw [List.length_map]; have := HNG.out; omega), HG.out]; rfl]
                        have d5 : decide ((31 : Int) < (ng : Int)) = false := decide_eq_false (by have := HNG.out; omega)
                        have d6 : decide ((64 : Int) < (GP : Int)) = true := decide_eq_true (by omega)
                        go_wp2_with (first | (go_at_call 34; refine (rmost_is HP3.out (by rw [ppats, List.length_map]; have := HPL.out; omega) HP64.out).mono ?_; rintro e w' ⟨rfl, rfl⟩) | (go_at_call 33; refine (HCL.out _).mono ?_; rintro e w' ⟨rfl, rfl⟩))
                        go_ret2
                        rw [hE.out]
                        exact RetE.nil _ HB.out
                  · by_cases hwp : 64 < WP
                    · have hE : Hid (pputE l W s = ([], 1)) := Lib.hid (by rw [HES.out, if_pos (.inr (.inr (.inr hwp)))])
                      go_enter Tryd.func10, Tryd.ntmps10
                      go_wp2_with fail
                      refine HP.out.mono ?_
                      rintro e w1 ⟨u, rfl, hu, hb1⟩
                      obtain ⟨A1, c1, rfl, _⟩ := hu
                      have HB := Lib.hid hb1
                      have HV := Lib.hid (HVV.out.below hb1)
                      clear hb1
                      go_wp2_with (go_at_call 29; refine (rcode_any _ _).mono ?_; rintro e w' ⟨rfl, rfl⟩)
                      refine (rabove_any l _ w1 HV.out HL.out HN1.out (by have := HN.out; omega)).mono ?_
                      rw [HAB.out]
                      rintro e w2 ⟨uv2, rfl, huv2, hb2⟩
                      have HB := Lib.hid (below_then HB.out hb2)
                      have HU2 := Lib.hid huv2
                      clear hb2 huv2
                      go_wp2_with fail
                      refine (rpairs_any us uv2 W w2 HU2.out H64.out (by have := HUL.out; omega) (by omega)).mono ?_
                      rw [HPS.out]
                      rintro e w3 ⟨gv, pv, rfl, hgv, hpv, hb3⟩
                      have HB := Lib.hid (below_then HB.out hb3)
                      have HU3 := Lib.hid (HU2.out.below hb3)
                      have HG3 := Lib.hid hgv
                      have HP3 := Lib.hid hpv
                      clear hb3 hgv hpv
                      obtain ⟨Ag, ng, cg, rfl⟩ := HG3.out.shape
                      have hng := HG3.out.parts.1
                      have HNG := Lib.hid (show ps.length = ng by rw [← hng]; simp [pgaps])
                      have hngb : ng ≤ 2000 := by have := HNG.out; have := HPL.out; omega
                      clear hng
                      go_wp2
                      go_loopw [15, 16] (GRel ps w3) (fun _ i _ => ng - (intOf i).toNat)
                      case atStart => exact ⟨0, by omega, rfl, rfl, rfl⟩
                      case round =>
                        obtain ⟨k, hk, rfl, rfl, rfl⟩ := hrel
                        have hk' : k ≤ ng := by have := HNG.out; omega
                        by_cases hlt : k < ng
                        · have hkl : k < (pgaps ps).length := by have := HNG.out; rw [pgaps, List.length_map]; omega
                          have hkp : k < ps.length := by have := HNG.out; omega
                          have hlti : (k : Int) < (ng : Int) := by omega
                          obtain ⟨adg, hAd, _, hcell⟩ := HG3.out.at hkl
                          subst hAd
                          obtain ⟨x, hx⟩ : ∃ x, x = ps[k].1 := ⟨_, rfl⟩
                          have hcx : wr.cell? (adg.add k) = some (.int .i64 (x : Int)) := by rw [hcell, hx]; simp [pgaps, iv]
                          have hx8 : x ≤ 255 := by rw [hx]; exact (HQ.out _ (List.getElem_mem hkp)).1
                          have hxw : IntKind.u64.wrap (x : Int) = (x : Int) := by rw [IntKind.wrap_u64]; omega
                          have HBI := Lib.hid (fun W => rbits_any x W (Nat.lt_of_le_of_lt hx8 (by decide)))
                          have HX := Lib.hid hx
                          obtain ⟨b, hb⟩ : ∃ b, b = wbits x := ⟨_, rfl⟩
                          rw [← hb] at HBI
                          obtain ⟨g0, hg0⟩ : ∃ g0, g0 = max 1 (wmost ((ps.map (·.1)).take k)) := ⟨_, rfl⟩
                          rw [← hg0]
                          obtain ⟨g1, hg1⟩ : ∃ g1, g1 = max g0 b := ⟨_, rfl⟩
                          have hmax : ∀ (ts : Array TypeId) (t : TypeId) (W : World), (Builtin.max_ ts t #[.int .i64 (g0 : Int), .int .i64 (b : Int)]).run Tryd.prog W = .ok (.int .i64 (g1 : Int)) W := fun ts t W => by
                            rw [run_max_int2]
                            congr 2
                            split <;> omega
                          have HG1 : Hid (g1 = max 1 (wmost ((ps.map (·.1)).take (k + 1)))) := Lib.hid (by rw [hg1, hg0, hb, List.take_succ_eq_append_getElem (by rw [List.length_map]; exact hkp), wmost_snoc, List.getElem_map, ← hx]; omega)
                          clear hcell hx hb hg0 hg1
                          go_wp2_with (go_at_call 32; refine (HBI.out _).mono ?_; rintro e w' ⟨rfl, rfl⟩)
                          go_roundw
                          case rel => exact ⟨k + 1, hkp, by go_num, by rw [HG1.out], rfl⟩
                          case measure => simp [intOf]; omega
                        · obtain rfl : ng = k := by omega
                          have hlti : ¬ (ng : Int) < (ng : Int) := by omega
                          rw [show max 1 (wmost ((ps.map (·.1)).take ng)) = G by rw [List.take_of_length_le (by rw [List.length_map]; have := HNG.out; omega), HG.out]; rfl]
                          have d5 : decide ((31 : Int) < (ng : Int)) = false := decide_eq_false (by have := HNG.out; omega)
                          have d6 : decide ((64 : Int) < (GP : Int)) = false := decide_eq_false (by omega)
                          have d7 : decide ((64 : Int) < (WP : Int)) = true := decide_eq_true (by omega)
                          go_wp2_with (first | (go_at_call 34; refine (rmost_is HP3.out (by rw [ppats, List.length_map]; have := HPL.out; omega) HP64.out).mono ?_; rintro e w' ⟨rfl, rfl⟩) | (go_at_call 33; refine (HCL.out _).mono ?_; rintro e w' ⟨rfl, rfl⟩))
                          go_ret2
                          rw [hE.out]
                          exact RetE.nil _ HB.out
                    · have hE : Hid (pputE l W s = (play base us W, 0)) := Lib.hid (by rw [HES.out, if_neg (by rintro (h | h | h | h) <;> first | exact HNE.out h | omega)])
                      go_enter Tryd.func10, Tryd.ntmps10
                      go_wp2_with fail
                      refine HP.out.mono ?_
                      rintro e w1 ⟨u, rfl, hu, hb1⟩
                      obtain ⟨A1, c1, rfl, _⟩ := hu
                      have HB := Lib.hid hb1
                      have HV := Lib.hid (HVV.out.below hb1)
                      clear hb1
                      go_wp2_with (go_at_call 29; refine (rcode_any _ _).mono ?_; rintro e w' ⟨rfl, rfl⟩)
                      refine (rabove_any l _ w1 HV.out HL.out HN1.out (by have := HN.out; omega)).mono ?_
                      rw [HAB.out]
                      rintro e w2 ⟨uv2, rfl, huv2, hb2⟩
                      have HB := Lib.hid (below_then HB.out hb2)
                      have HU2 := Lib.hid huv2
                      clear hb2 huv2
                      go_wp2_with fail
                      refine (rpairs_any us uv2 W w2 HU2.out H64.out (by have := HUL.out; omega) (by omega)).mono ?_
                      rw [HPS.out]
                      rintro e w3 ⟨gv, pv, rfl, hgv, hpv, hb3⟩
                      have HB := Lib.hid (below_then HB.out hb3)
                      have HU3 := Lib.hid (HU2.out.below hb3)
                      have HG3 := Lib.hid hgv
                      have HP3 := Lib.hid hpv
                      clear hb3 hgv hpv
                      obtain ⟨Ag, ng, cg, rfl⟩ := HG3.out.shape
                      have hng := HG3.out.parts.1
                      have HNG := Lib.hid (show ps.length = ng by rw [← hng]; simp [pgaps])
                      have hngb : ng ≤ 2000 := by have := HNG.out; have := HPL.out; omega
                      clear hng
                      go_wp2
                      go_loopw [15, 16] (GRel ps w3) (fun _ i _ => ng - (intOf i).toNat)
                      case atStart => exact ⟨0, by omega, rfl, rfl, rfl⟩
                      case round =>
                        obtain ⟨k, hk, rfl, rfl, rfl⟩ := hrel
                        have hk' : k ≤ ng := by have := HNG.out; omega
                        by_cases hlt : k < ng
                        · have hkl : k < (pgaps ps).length := by have := HNG.out; rw [pgaps, List.length_map]; omega
                          have hkp : k < ps.length := by have := HNG.out; omega
                          have hlti : (k : Int) < (ng : Int) := by omega
                          obtain ⟨adg, hAd, _, hcell⟩ := HG3.out.at hkl
                          subst hAd
                          obtain ⟨x, hx⟩ : ∃ x, x = ps[k].1 := ⟨_, rfl⟩
                          have hcx : wr.cell? (adg.add k) = some (.int .i64 (x : Int)) := by rw [hcell, hx]; simp [pgaps, iv]
                          have hx8 : x ≤ 255 := by rw [hx]; exact (HQ.out _ (List.getElem_mem hkp)).1
                          have hxw : IntKind.u64.wrap (x : Int) = (x : Int) := by rw [IntKind.wrap_u64]; omega
                          have HBI := Lib.hid (fun W => rbits_any x W (Nat.lt_of_le_of_lt hx8 (by decide)))
                          have HX := Lib.hid hx
                          obtain ⟨b, hb⟩ : ∃ b, b = wbits x := ⟨_, rfl⟩
                          rw [← hb] at HBI
                          obtain ⟨g0, hg0⟩ : ∃ g0, g0 = max 1 (wmost ((ps.map (·.1)).take k)) := ⟨_, rfl⟩
                          rw [← hg0]
                          obtain ⟨g1, hg1⟩ : ∃ g1, g1 = max g0 b := ⟨_, rfl⟩
                          have hmax : ∀ (ts : Array TypeId) (t : TypeId) (W : World), (Builtin.max_ ts t #[.int .i64 (g0 : Int), .int .i64 (b : Int)]).run Tryd.prog W = .ok (.int .i64 (g1 : Int)) W := fun ts t W => by
                            rw [run_max_int2]
                            congr 2
                            split <;> omega
                          have HG1 : Hid (g1 = max 1 (wmost ((ps.map (·.1)).take (k + 1)))) := Lib.hid (by rw [hg1, hg0, hb, List.take_succ_eq_append_getElem (by rw [List.length_map]; exact hkp), wmost_snoc, List.getElem_map, ← hx]; omega)
                          clear hcell hx hb hg0 hg1
                          go_wp2_with (go_at_call 32; refine (HBI.out _).mono ?_; rintro e w' ⟨rfl, rfl⟩)
                          go_roundw
                          case rel => exact ⟨k + 1, hkp, by go_num, by rw [HG1.out], rfl⟩
                          case measure => simp [intOf]; omega
                        · obtain rfl : ng = k := by omega
                          have hlti : ¬ (ng : Int) < (ng : Int) := by omega
                          rw [show max 1 (wmost ((ps.map (·.1)).take ng)) = G by rw [List.take_of_length_le (by rw [List.length_map]; have := HNG.out; omega), HG.out]; rfl]
                          have d5 : decide ((31 : Int) < (ng : Int)) = false := decide_eq_false (by have := HNG.out; omega)
                          have d6 : decide ((64 : Int) < (GP : Int)) = false := decide_eq_false (by omega)
                          have d7 : decide ((64 : Int) < (WP : Int)) = false := decide_eq_false (by omega)
                          have hng31 : ng ≤ 31 := by have := HNG.out; omega
                          obtain ⟨W2, hW2⟩ : ∃ W2, W2 = (wclosest (GP : Int)).toNat := ⟨_, rfl⟩
                          have hpcl := pclose (n := GP) (by omega)
                          rw [← hW2] at hpcl
                          have HW2 := Lib.hid hpcl.2.2.2.2.2.1
                          have HW2b := Lib.hid (show W2 ≤ 64 ∧ GP ≤ W2 from ⟨hpcl.2.1, hpcl.2.2.1⟩)
                          have HW2E := Lib.hid hW2
                          have HQ3 : Hid (∀ q ∈ ps, q.1 < 2 ^ G ∧ q.2 < 2 ^ P) := Lib.hid (by rw [← HGG.out, ← HPP.out]; exact HQ2.out)
                          have hGPn : GP = G + P := by omega
                          have HGPN := Lib.hid hGPn
                          clear hW2 hpcl hGPn
                          go_wp2_with (first | (go_at_call 34; refine (rmost_is HP3.out (by rw [ppats, List.length_map]; have := HPL.out; omega) HP64.out).mono ?_; rintro e w' ⟨rfl, rfl⟩) | (go_at_call 33; refine (HCL.out _).mono ?_; rintro e w' ⟨rfl, rfl⟩) | (go_at_call 35; refine (rbased_any base _ HBI0.out HNE.out).mono ?_))
                          rintro e w4 ⟨bv4, rfl, hown4, hb4⟩
                          have HB := Lib.hid (below_then HB.out hb4)
                          have HU4 := Lib.hid (HU3.out.below hb4)
                          have HG4 := Lib.hid (HG3.out.below hb4)
                          have HP4 := Lib.hid (HP3.out.below hb4)
                          have HI4 := Lib.hid (isB_own hown4)
                          clear hb4 hown4
                          obtain ⟨Ab, nb, cb, rfl⟩ := IsV.shape (f := bv) HI4.out
                          have hnb := (IsV.parts (f := bv) HI4.out).1
                          have HNB := Lib.hid hnb
                          rw [pbased_len] at hnb
                          obtain ⟨N1, hN1⟩ : ∃ N1, N1 = nb - 1 := ⟨_, rfl⟩
                          have hN1i : (nb : Int) - 1 = (N1 : Int) := by have := HN8.out; omega
                          obtain ⟨M1, hM1⟩ : ∃ M1, M1 = 32 * N1 := ⟨_, rfl⟩
                          have hM1i : 32 * (N1 : Int) = (M1 : Int) := by omega
                          obtain ⟨X, hX⟩ : ∃ X, X = M1 + CP := ⟨_, rfl⟩
                          have hXi : (M1 : Int) + (CP : Int) = (X : Int) := by omega
                          obtain ⟨G1, hG1⟩ : ∃ G1, G1 = G - 1 := ⟨_, rfl⟩
                          have hG1i : (G : Int) - 1 = (G1 : Int) := by omega
                          obtain ⟨M2, hM2⟩ : ∃ M2, M2 = 32 * G1 := ⟨_, rfl⟩
                          have hM2i : 32 * (G1 : Int) = (M2 : Int) := by omega
                          obtain ⟨Y, hY⟩ : ∃ Y, Y = M2 + ng := ⟨_, rfl⟩
                          have hYi : (M2 : Int) + (ng : Int) = (Y : Int) := by omega
                          have hX8 : X < 256 := by have := HN8.out; omega
                          have hY8 : Y < 256 := by omega
                          have hXw : IntKind.u8.wrap (X : Int) = (X : Int) := by rw [IntKind.wrap_u8]; omega
                          have hYw : IntKind.u8.wrap (Y : Int) = (Y : Int) := by rw [IntKind.wrap_u8]; omega
                          have HXY : Hid (pheadb base ps = [UInt8.ofNat X, UInt8.ofNat Y]) := Lib.hid (by unfold pheadb; rw [HPP.out, HGG.out, HCPP.out, HNG.out, hnb, ← hN1, ← hM1, ← hX, ← hG1, ← hM2, ← hY])
                          have hXb := bv_low7 hX8
                          have hYb := bv_low7 hY8
                          have HXB := Lib.hid hXb
                          have HYB := Lib.hid hYb
                          clear hXb hYb hN1 hM1 hX hG1 hM2 hY hnb
                          have HCW := Lib.hid (fun X => rcode_any (W : Int) X)
                          rw [HCWE.out] at HCW
                          have HCQ := Lib.hid (fun X => rcode_any (P : Int) X)
                          rw [HCPE.out] at HCQ
                          have HHD := Lib.hid (fun X => rhead8_any 2 (CW : Int) (n : Int) X)
                          rw [show (2 : Int) = ((2 : Nat) : Int) from rfl, dhead_in (by omega) HC31.out (by have := HN1.out; have := HN.out; omega) (by omega)] at HHD
                          go_wp2_with (go_at_call 29; refine (HCW.out _).mono ?_; rintro e w' ⟨rfl, rfl⟩)
                          refine (HHD.out _).mono ?_
                          rintro e w5 ⟨hv5, rfl, hown5, hb5⟩
                          rw [dheadN_len] at hown5
                          have HU5 := Lib.hid (HU4.out.below hb5)
                          have HG5 := Lib.hid (HG4.out.below hb5)
                          have HP5 := Lib.hid (HP4.out.below hb5)
                          have HI5 := Lib.hid (IsB.below HI4.out hb5)
                          have HOW := Lib.hid hown5
                          have HBF := Lib.hid hb5
                          have hz5 := hb5.size
                          clear hown5 hb5
                          have hown6 := HOW.out.alloc (.cells #[.int .u8 (X : Int), .int .u8 (Y : Int)] 5)
                          have hb6 := HBF.out.alloc hz5 (.cells #[.int .u8 (X : Int), .int .u8 (Y : Int)] 5)
                          have hz6 := hb6.size
                          have hlXY : Lies (w5.alloc (.cells #[.int .u8 (X : Int), .int .u8 (Y : Int)] 5)) (some ⟨w5.heap.size, 0, none⟩) ([UInt8.ofNat X, UInt8.ofNat Y].map bv) := by
                            have h : Row (w5.alloc (.cells #[.int .u8 (X : Int), .int .u8 (Y : Int)] 5)) w5.heap.size 5 ([UInt8.ofNat X, UInt8.ofNat Y].map bv) := by rw [List.map_cons, List.map_cons, List.map_nil, ← HXB.out, ← HYB.out]; exact heap_alloc_new w5 _
                            exact h.lies 0
                          go_wp2_with (first | (go_at_call 29; refine (HCQ.out _).mono ?_; rintro e w' ⟨rfl, rfl⟩) | (at_builtin; refine wpList_join elemB rfl _ _ rfl w4.heap.size _ _ _ _ _ _ ([UInt8.ofNat X, UInt8.ofNat Y].map bv) w4 rfl rfl (by simp) rfl hlXY (bv_one _) hown6 hb6 hz6 (by omega) (by omega) ?_))
                          intro v6 w6 hown6' hb6' _ _
                          have hz6' := hb6'.size
                          obtain ⟨-, hAb, -, -, hlb⟩ := IsV.parts (f := bv) (IsB.below HI4.out hb6')
                          have HBM := Lib.hid (show ((pbased base).map bv).length = nb by rw [List.length_map]; exact HNB.out)
                          have hnb8 : nb ≤ 8 := by have := HNB.out; rw [pbased_len] at this; have := HN8.out; omega
                          clear hown6 hb6 hz6 hlXY
                          go_wp2_with (at_builtin; refine wpList_join elemB rfl _ _ rfl w4.heap.size _ _ _ _ _ _ ((pbased base).map bv) w4 rfl rfl hAb HBM.out hlb (bv_one _) hown6' hb6' hz6' (by omega) (by omega) ?_)
                          intro v7 w7 hown7 hb7 _ _
                          have HOUT := Lib.hid hown7
                          have HB7 := Lib.hid (below_then HB.out hb7)
                          have HU7 := Lib.hid (HU4.out.below hb7)
                          have HG7 := Lib.hid (HG4.out.below hb7)
                          have HP7 := Lib.hid (HP4.out.below hb7)
                          have HB47 := Lib.hid hb7
                          have hst : RowRel (plow us W) w7 (.slice (some ⟨w7.heap.size, 0, none⟩) 0 0) (.int .i64 0) (w7.alloc (.cells #[] 62)) := ⟨0, by omega, rfl, own_made w7 _, (Below.refl _ _).alloc (Nat.le_refl _) _⟩
                          have HST := Lib.hid hst
                          clear hst hown6' hb6' hz6' hown7 hb7 hlb hAb
                          obtain ⟨Au, nu, cu, rfl⟩ := HU7.out.shape
                          have hnu := HU7.out.parts.1
                          have hnun : nu = n := by rw [← hnu]; exact HUL.out
                          have hnu5 : nu ≤ 512 := by omega
                          have HLL := Lib.hid (show (plow us W).length = nu by rw [plow, List.length_map]; exact hnu)
                          have HNU := Lib.hid hnu
                          have HNUN := Lib.hid hnun
                          clear hnu hnun
                          go_wp2
                          go_loopw [20, 21] (RowRel (plow us W) w7) (fun _ i _ => nu - (intOf i).toNat)
                          case atStart => exact HST.out
                          case round =>
                            obtain ⟨k, hk, rfl, hlow, hbr⟩ := hrel
                            have HSTT := HST
                            clear HST
                            have hk' : k ≤ nu := by have := HLL.out; omega
                            have hz := hbr.size
                            by_cases hlt : k < nu
                            · have hkl : k < us.length := by have := HNU.out; omega
                              have hlti : (k : Int) < (nu : Int) := by omega
                              obtain ⟨adu, hAd, hadl, hcell⟩ := HU7.out.at hkl
                              subst hAd
                              obtain ⟨x, hx⟩ : ∃ x, x = us[k] := ⟨_, rfl⟩
                              have hx64 : x < 18446744073709551616 := by rw [hx]; exact H64.out _ (List.getElem_mem hkl)
                              obtain ⟨z, hz0⟩ : ∃ z, z = x % 2 ^ W := ⟨_, rfl⟩
                              obtain ⟨K, hK⟩ : ∃ K, K = 2 ^ W := ⟨_, rfl⟩
                              obtain ⟨K1, hK1⟩ : ∃ K1, K1 = K - 1 := ⟨_, rfl⟩
                              have hkp : 1 ≤ K := by rw [hK]; exact Nat.one_le_two_pow
                              have hK64 : K < 18446744073709551616 := by rw [hK]; exact Nat.pow_lt_pow_right (by omega) hW64
                              have hKc : (2 : Int) ^ W = (K : Int) := by rw [hK]; simp
                              have hKw : IntKind.u64.wrap (K : Int) = (K : Int) := by rw [IntKind.wrap_u64]; omega
                              have hK1i : (K : Int) - 1 = (K1 : Int) := by omega
                              have hK1w : IntKind.u64.wrap (K1 : Int) = (K1 : Int) := by rw [IntKind.wrap_u64]; omega
                              have hand : bits .and .u64 (x : Int) (K1 : Int) = (z : Int) := by rw [u64_and _ _ (by omega) (by omega) (by omega) (by omega), Int.toNat_natCast, Int.toNat_natCast, hK1, hK, Nat.and_two_pow_sub_one_eq_mod, hz0]
                              have HZ : Hid ((plow us W).take (k + 1) = (plow us W).take k ++ [z]) := Lib.hid (by rw [List.take_succ_eq_append_getElem (by rw [plow, List.length_map]; exact hkl)]; congr 2; rw [hz0, hx]; simp [plow])
                              have hcx : wr.cell? (adu.add k) = some (.int .u64 (x : Int)) := by rw [hbr.cell (by rw [add_block]; exact hadl), hcell, hx]; rfl
                              clear hcell hx hx64 hz0 hK hK1 hkp hK64
                              have HCX := Lib.hid hcx
                              have HADU := Lib.hid hadl
                              have HLOWO := Lib.hid hlow
                              have HBRR := Lib.hid hbr
                              have hadw : adu.block < wr.heap.size := Nat.lt_of_lt_of_le hadl hbr.size
                              have HADW := Lib.hid hadw
                              clear hcx hlow hbr hz hadl hadw
                              go_wp2
                              refine wp_region_list_tail 10 [.is (u20), .is (.slice (some adu) nu cu), .is (.int .i64 (k : Int)), .is (.pointer (some (adu.add k))), .is (.int .u64 (x : Int)), .is (.int .i64 (W : Int)), .is (.int .u64 (K : Int)), .is (.int .u64 (K1 : Int)), .is (.int .u64 (z : Int)), .vals uv [z]] [some 136, some 137, some 138, some 139, some 140, some 141, some 142, some 143, some 144, some 145] (by kernel_rfl) (by kernel_rfl) (by kernel_rfl) (by kernel_rfl) rfl ⟨?_, ?_, ?_, ?_, ?_, ?_, ?_, ?_, ?_, ?_, trivial⟩ ?_
                              · intro ρ W1 hb1 H
                                exact gives_move rfl (H.old 20 _ (by kernel_rfl) rfl) ⟨rfl, Below.refl _ _⟩
                              · intro ρ W1 hb1 H
                                exact gives_move rfl (H.old 11 _ (by kernel_rfl) rfl) ⟨rfl, Below.refl _ _⟩
                              · intro ρ W1 hb1 H
                                exact gives_move rfl (H.old 21 _ (by kernel_rfl) rfl) ⟨rfl, Below.refl _ _⟩
                              · intro ρ W1 hb1 H
                                exact gives_index (k := k) elemU rfl (H.new 137 1 (by kernel_rfl)) (H.new 138 2 (by kernel_rfl)) hlt ⟨rfl, Below.refl _ _⟩
                              · intro ρ W1 hb1 H
                                exact gives_load rfl (H.new 139 3 (by kernel_rfl)) Tryd.underlying62 rfl ((hb1.cell (by rw [add_block]; exact HADW.out)).trans HCX.out) ⟨rfl, Below.refl _ _⟩
                              · intro ρ W1 hb1 H
                                exact gives_move rfl (H.old 1 _ (by kernel_rfl) rfl) ⟨rfl, Below.refl _ _⟩
                              · intro ρ W1 hb1 H
                                exact gives_shl64 (k := W) rfl (H.const _) (H.new 141 5 (by kernel_rfl)) (by omega) (by rw [Int.one_mul, hKc]; exact hKw) ⟨rfl, Below.refl _ _⟩
                              · intro ρ W1 hb1 H
                                exact gives_sub64 rfl (H.new 142 6 (by kernel_rfl)) (H.const _) (by rw [hK1i]; exact hK1w) ⟨rfl, Below.refl _ _⟩
                              · intro ρ W1 hb1 H
                                exact gives_and64 rfl (H.new 140 4 (by kernel_rfl)) (H.new 143 7 (by kernel_rfl)) hand ⟨rfl, Below.refl _ _⟩
                              · intro ρ W1 hb1 H
                                exact gives_val (f := uv) elemU (a := z) rfl (H.new 144 8 (by kernel_rfl)) rfl fun _ _ h hb => ⟨h, hb⟩
                              · intro vs W1 hb1 hfs
                                have f0 : vs 0 = (u20) := hfs 0 (by decide)
                                have f1 : vs 1 = (.slice (some adu) nu cu) := hfs 1 (by decide)
                                have f2 : vs 2 = (.int .i64 (k : Int)) := hfs 2 (by decide)
                                have f3 : vs 3 = (.pointer (some (adu.add k))) := hfs 3 (by decide)
                                have f4 : vs 4 = (.int .u64 (x : Int)) := hfs 4 (by decide)
                                have f5 : vs 5 = (.int .i64 (W : Int)) := hfs 5 (by decide)
                                have f6 : vs 6 = (.int .u64 (K : Int)) := hfs 6 (by decide)
                                have f7 : vs 7 = (.int .u64 (K1 : Int)) := hfs 7 (by decide)
                                have f8 : vs 8 = (.int .u64 (z : Int)) := hfs 8 (by decide)
                                have f9 : IsV uv [z] (vs 9) W1 := hfs 9 (by decide)
                                clear hfs
                                simp only [putAll, Nat.zero_add, Nat.reduceAdd, List.drop_succ_cons, List.drop_zero]
                                rw [f0, f1, f2, f3, f4, f5, f6, f7, f8]
                                clear f0 f1 f2 f3 f4 f5 f6 f7 f8
                                simp only [Act.put, List.setIfInBounds_toArray, List.set_cons_succ, List.set_cons_zero]
                                have hown1 := own_below HLOWO.out hb1
                                have hB1 := HBRR.out.trans (hb1.mono HBRR.out.size)
                                have hz1 := hB1.size
                                obtain ⟨A9, n9, c9, e9⟩ := f9.shape
                                rw [e9] at f9 ⊢
                                obtain ⟨hn9, hA9, -, -, hl9⟩ := f9.parts
                                have hn91 : n9 = 1 := by rw [← hn9]; rfl
                                subst hn91
                                clear e9 hn9 f9
                                go_wp2_with (at_builtin; refine wpList_join elemU rfl _ _ rfl w7.heap.size _ _ _ _ _ _ ([z].map uv) w7 rfl rfl hA9 (by simp) hl9 (by intro u hu; simp at hu; subst hu; rfl) hown1 hB1 hz1 (by omega) (by omega) ?_)
                                intro v9 w9 hown9 hb9 _ _
                                have hrel : RowRel (plow us W) w7 v9 (.int .i64 ((k : Int) + 1)) w9 := ⟨k + 1, by have := HLL.out; omega, by rw [Int.natCast_add]; rfl, by rw [HZ.out, List.map_append, List.map_take]; exact hown9, hb9⟩
                                have HREL := Lib.hid hrel
                                have hki : IntKind.i64.wrap ((k : Int) + 1) = (k : Int) + 1 := by rw [IntKind.wrap_i64]; omega
                                clear hown9 hb9 hrel hown1 hB1 hz1 hl9 hA9
                                go_wp2
                                go_roundw
                                case rel => exact HREL.out
                                case measure => simp [intOf]; omega
                            · obtain rfl : nu = k := by omega
                              have hlti : ¬ (nu : Int) < (nu : Int) := by omega
                              rw [List.take_of_length_le (by have := HLL.out; omega)] at hlow
                              have HLOW := Lib.hid (isU_own hlow)
                              have hz8 := hbr.size
                              have HOUT8 := Lib.hid (own_below HOUT.out hbr)
                              have HG8 := Lib.hid (HG7.out.below hbr)
                              have HP8 := Lib.hid (HP7.out.below hbr)
                              have HB8 := Lib.hid (HB47.out.trans (hbr.mono HB47.out.size))
                              clear hlow hbr hz8
                              go_wp2_with fail
                              refine (rpack_is (W : Int) HLOW.out (by have := HLL.out; omega) (fun z hz => by obtain ⟨u, hu, rfl⟩ := List.mem_map.1 hz; exact Nat.lt_of_le_of_lt (Nat.mod_le _ _) (H64.out u hu))).mono ?_
                              rw [show packsAny (plow us W) (W : Int) = (bpack (plow us W) W, 0) by rw [packsAny_in _ _ (by omega), packs_ok (fun z hz => by obtain ⟨u, hu, rfl⟩ := List.mem_map.1 hz; exact Nat.mod_lt _ (Nat.two_pow_pos W))]]
                              rintro e w10 ⟨xv, rfl, hxv, hb10⟩
                              have HXV := Lib.hid hxv
                              have HOUT10 := Lib.hid (own_below HOUT8.out hb10)
                              have HG10 := Lib.hid (HG8.out.below hb10)
                              have HP10 := Lib.hid (HP8.out.below hb10)
                              have HB10 := Lib.hid (HB8.out.trans (hb10.mono HB8.out.size))
                              clear hxv hb10
                              generalize wr = wq at *
                              have hst2 : RowRel (pboth ps P) w10 (.slice (some ⟨w10.heap.size, 0, none⟩) 0 0) (.int .i64 0) (w10.alloc (.cells #[] 62)) := ⟨0, by omega, rfl, own_made w10 _, (Below.refl _ _).alloc (Nat.le_refl _) _⟩
                              have HST2 := Lib.hid hst2
                              clear hst2
                              have HLB := Lib.hid (show (pboth ps P).length = ng by rw [pboth, List.length_map]; exact HNG.out)
                              go_wp2
                              go_loopw [24, 25] (RowRel (pboth ps P) w10) (fun _ i _ => ng - (intOf i).toNat)
                              case atStart => exact HST2.out
                              case round =>
                                obtain ⟨k, hk, rfl, hboth, hbr⟩ := hrel
                                have HSTT2 := HST2
                                clear HST2
                                have hk' : k ≤ ng := by have := HLB.out; omega
                                have hz := hbr.size
                                by_cases hlt : k < ng
                                · have hkp : k < ps.length := by have := HNG.out; omega
                                  have hlti : (k : Int) < (ng : Int) := by omega
                                  obtain ⟨adg, hAd, hadg, hcg⟩ := HG10.out.at (k := k) (by rw [pgaps, List.length_map]; exact hkp)
                                  subst hAd
                                  obtain ⟨Ap, np, cp, hpv⟩ := HP10.out.shape
                                  have hnp := HP10.out
                                  rw [hpv] at hnp
                                  obtain ⟨adp, hAd, hadp, hcp⟩ := hnp.at (k := k) (by rw [ppats, List.length_map]; exact hkp)
                                  have hnpl := hnp.parts.1
                                  rw [ppats, List.length_map] at hnpl
                                  subst hAd hpv
                                  obtain ⟨x, hx⟩ : ∃ x, x = ps[k].1 := ⟨_, rfl⟩
                                  obtain ⟨y, hy⟩ : ∃ y, y = ps[k].2 := ⟨_, rfl⟩
                                  have hcx : wr.cell? (adg.add k) = some (.int .i64 (x : Int)) := by rw [hbr.cell (by rw [add_block]; exact hadg), hcg, hx]; simp [pgaps, iv]
                                  have hcy : wr.cell? (adp.add k) = some (.int .u64 (y : Int)) := by rw [hbr.cell (by rw [add_block]; exact hadp), hcp, hy]; simp [ppats, uv]
                                  have hxy := HQ2.out _ (List.getElem_mem hkp)
                                  rw [← hx, ← hy, HGG.out, HPP.out] at hxy
                                  have hx8 : x ≤ 255 := by rw [hx]; exact (HQ.out _ (List.getElem_mem hkp)).1
                                  obtain ⟨S, hS⟩ : ∃ S, S = x * 2 ^ P := ⟨_, rfl⟩
                                  obtain ⟨Z, hZ⟩ : ∃ Z, Z = S + y := ⟨_, rfl⟩
                                  have hZ64 : Z < 18446744073709551616 := by
                                    have h1 : (x + 1) * 2 ^ P ≤ 2 ^ G * 2 ^ P := Nat.mul_le_mul_right _ hxy.1
                                    rw [← Nat.pow_add, Nat.add_mul] at h1
                                    have h2 : 2 ^ (G + P) ≤ 2 ^ 64 := Nat.pow_le_pow_right (by omega) (by omega)
                                    have h3 : (2 : Nat) ^ 64 = 18446744073709551616 := by decide
                                    omega
                                  have hSc : (x : Int) * 2 ^ P = (S : Int) := by rw [hS]; simp
                                  have hxw : IntKind.u64.wrap (x : Int) = (x : Int) := by rw [IntKind.wrap_u64]; omega
                                  have hSw : IntKind.u64.wrap (S : Int) = (S : Int) := by rw [IntKind.wrap_u64]; omega
                                  have hZi : (S : Int) + (y : Int) = (Z : Int) := by omega
                                  have hZw : IntKind.u64.wrap (Z : Int) = (Z : Int) := by rw [IntKind.wrap_u64]; omega
                                  have HZ : Hid ((pboth ps P).take (k + 1) = (pboth ps P).take k ++ [Z]) := Lib.hid (by rw [List.take_succ_eq_append_getElem (by rw [pboth, List.length_map]; exact hkp)]; congr 2; rw [hZ, hS, hx, hy]; simp [pboth])
                                  have hknp : (k : Int) < (np : Int) := by omega
                                  have hnp0 : 0 ≤ np := Nat.zero_le _
                                  clear hcg hcp hx hy hxy hS hZ hZ64 hnp hnpl
                                  have HCX := Lib.hid hcx
                                  have HCY := Lib.hid hcy
                                  have HADX := Lib.hid (show adg.block < wr.heap.size from Nat.lt_of_lt_of_le hadg hbr.size)
                                  have HADY := Lib.hid (show adp.block < wr.heap.size from Nat.lt_of_lt_of_le hadp hbr.size)
                                  have HBOO := Lib.hid hboth
                                  have HBRR := Lib.hid hbr
                                  clear hcx hcy hboth hbr hz hadg hadp
                                  go_wp2
                                  refine wp_region_list_tail 14 [.is (u24), .is (.slice (some adg) ng cg), .is (.int .i64 (k : Int)), .is (.pointer (some (adg.add k))), .is (.int .i64 (x : Int)), .is (.int .u64 (x : Int)), .is (.int .i64 (P : Int)), .is (.int .u64 (S : Int)), .is (.slice (some adp) np cp), .is (.int .i64 (k : Int)), .is (.pointer (some (adp.add k))), .is (.int .u64 (y : Int)), .is (.int .u64 (Z : Int)), .vals uv [Z]] [some 160, some 161, some 162, some 163, some 164, some 165, some 166, some 167, some 168, some 169, some 170, some 171, some 172, some 173] (by kernel_rfl) (by kernel_rfl) (by kernel_rfl) (by kernel_rfl) rfl ⟨?_, ?_, ?_, ?_, ?_, ?_, ?_, ?_, ?_, ?_, ?_, ?_, ?_, ?_, trivial⟩ ?_
                                  · intro ρ W1 hb1 H
                                    exact gives_move rfl (H.old 24 _ (by kernel_rfl) rfl) ⟨rfl, Below.refl _ _⟩
                                  · intro ρ W1 hb1 H
                                    exact gives_move rfl (H.old 13 _ (by kernel_rfl) rfl) ⟨rfl, Below.refl _ _⟩
                                  · intro ρ W1 hb1 H
                                    exact gives_move rfl (H.old 25 _ (by kernel_rfl) rfl) ⟨rfl, Below.refl _ _⟩
                                  · intro ρ W1 hb1 H
                                    exact gives_index (k := k) elemI rfl (H.new 161 1 (by kernel_rfl)) (H.new 162 2 (by kernel_rfl)) hlt ⟨rfl, Below.refl _ _⟩
                                  · intro ρ W1 hb1 H
                                    exact gives_load rfl (H.new 163 3 (by kernel_rfl)) Tryd.underlying3 rfl ((hb1.cell (by rw [add_block]; exact HADX.out)).trans HCX.out) ⟨rfl, Below.refl _ _⟩
                                  · intro ρ W1 hb1 H
                                    exact gives_conv rfl (H.new 164 4 (by kernel_rfl)) (by rw [Tryd.underlying3]; rfl) Tryd.underlying62 hxw ⟨rfl, Below.refl _ _⟩
                                  · intro ρ W1 hb1 H
                                    exact gives_move rfl (H.old 17 _ (by kernel_rfl) rfl) ⟨rfl, Below.refl _ _⟩
                                  · intro ρ W1 hb1 H
                                    exact gives_shl64 (k := P) rfl (H.new 165 5 (by kernel_rfl)) (H.new 166 6 (by kernel_rfl)) p64 (by rw [hSc]; exact hSw) ⟨rfl, Below.refl _ _⟩
                                  · intro ρ W1 hb1 H
                                    exact gives_move rfl (H.old 14 _ (by kernel_rfl) rfl) ⟨rfl, Below.refl _ _⟩
                                  · intro ρ W1 hb1 H
                                    exact gives_move rfl (H.old 25 _ (by kernel_rfl) rfl) ⟨rfl, Below.refl _ _⟩
                                  · intro ρ W1 hb1 H
                                    exact gives_index (k := k) elemU rfl (H.new 168 8 (by kernel_rfl)) (H.new 169 9 (by kernel_rfl)) (by omega) ⟨rfl, Below.refl _ _⟩
                                  · intro ρ W1 hb1 H
                                    exact gives_load rfl (H.new 170 10 (by kernel_rfl)) Tryd.underlying62 rfl ((hb1.cell (by rw [add_block]; exact HADY.out)).trans HCY.out) ⟨rfl, Below.refl _ _⟩
                                  · intro ρ W1 hb1 H
                                    exact gives_add64 rfl (H.new 167 7 (by kernel_rfl)) (H.new 171 11 (by kernel_rfl)) (by rw [hZi]; exact hZw) ⟨rfl, Below.refl _ _⟩
                                  · intro ρ W1 hb1 H
                                    exact gives_val (f := uv) elemU (a := Z) rfl (H.new 172 12 (by kernel_rfl)) rfl fun _ _ h hb => ⟨h, hb⟩
                                  · intro vs W1 hb1 hfs
                                    have f0 : vs 0 = (u24) := hfs 0 (by decide)
                                    have f1 : vs 1 = (.slice (some adg) ng cg) := hfs 1 (by decide)
                                    have f2 : vs 2 = (.int .i64 (k : Int)) := hfs 2 (by decide)
                                    have f3 : vs 3 = (.pointer (some (adg.add k))) := hfs 3 (by decide)
                                    have f4 : vs 4 = (.int .i64 (x : Int)) := hfs 4 (by decide)
                                    have f5 : vs 5 = (.int .u64 (x : Int)) := hfs 5 (by decide)
                                    have f6 : vs 6 = (.int .i64 (P : Int)) := hfs 6 (by decide)
                                    have f7 : vs 7 = (.int .u64 (S : Int)) := hfs 7 (by decide)
                                    have f8 : vs 8 = (.slice (some adp) np cp) := hfs 8 (by decide)
                                    have f9 : vs 9 = (.int .i64 (k : Int)) := hfs 9 (by decide)
                                    have f10 : vs 10 = (.pointer (some (adp.add k))) := hfs 10 (by decide)
                                    have f11 : vs 11 = (.int .u64 (y : Int)) := hfs 11 (by decide)
                                    have f12 : vs 12 = (.int .u64 (Z : Int)) := hfs 12 (by decide)
                                    have f13 : IsV uv [Z] (vs 13) W1 := hfs 13 (by decide)
                                    clear hfs
                                    simp only [putAll, Nat.zero_add, Nat.reduceAdd, List.drop_succ_cons, List.drop_zero]
                                    rw [f0, f1, f2, f3, f4, f5, f6, f7, f8, f9, f10, f11, f12]
                                    clear f0 f1 f2 f3 f4 f5 f6 f7 f8 f9 f10 f11 f12
                                    simp only [Act.put, List.setIfInBounds_toArray, List.set_cons_succ, List.set_cons_zero]
                                    have hown1 := own_below HBOO.out hb1
                                    have hB1 := HBRR.out.trans (hb1.mono HBRR.out.size)
                                    have hz1 := hB1.size
                                    obtain ⟨A9, n9, c9, e9⟩ := f13.shape
                                    rw [e9] at f13 ⊢
                                    obtain ⟨hn9, hA9, -, -, hl9⟩ := f13.parts
                                    have hn91 : n9 = 1 := by rw [← hn9]; rfl
                                    subst hn91
                                    clear e9 hn9 f13
                                    go_wp2_with (at_builtin; refine wpList_join elemU rfl _ _ rfl w10.heap.size _ _ _ _ _ _ ([Z].map uv) w10 rfl rfl hA9 (by simp) hl9 (by intro u hu; simp at hu; subst hu; rfl) hown1 hB1 hz1 (by omega) (by omega) ?_)
                                    intro v9 w9 hown9 hb9 _ _
                                    have hrel : RowRel (pboth ps P) w10 v9 (.int .i64 ((k : Int) + 1)) w9 := ⟨k + 1, by have := HLB.out; omega, by rw [Int.natCast_add]; rfl, by rw [HZ.out, List.map_append, List.map_take]; exact hown9, hb9⟩
                                    have HREL := Lib.hid hrel
                                    have hki : IntKind.i64.wrap ((k : Int) + 1) = (k : Int) + 1 := by rw [IntKind.wrap_i64]; omega
                                    clear hown9 hb9 hrel hown1 hB1 hz1 hl9 hA9
                                    go_wp2
                                    go_roundw
                                    case rel => exact HREL.out
                                    case measure => simp [intOf]; omega
                                · obtain rfl : ng = k := by omega
                                  have hlti2 : ¬ (ng : Int) < (ng : Int) := by omega
                                  rw [List.take_of_length_le (by have := HLB.out; omega)] at hboth
                                  have HBO := Lib.hid (isU_own hboth)
                                  have HOUT12 := Lib.hid (own_below HOUT10.out hbr)
                                  have HXV12 := Lib.hid (IsB.below HXV.out hbr)
                                  have HB12 := Lib.hid (HB10.out.trans (hbr.mono HB10.out.size))
                                  clear hboth hbr hz
                                  have HCL2 := Lib.hid (fun X => rclosest_any (GP : Int) X)
                                  rw [HW2.out] at HCL2
                                  go_wp2_with (go_at_call 33; refine (HCL2.out _).mono ?_; rintro e w' ⟨rfl, rfl⟩)
                                  refine (rpack_isO (W2 : Int) HBO.out (by have := HLB.out; omega) (fun z hz => Nat.lt_of_lt_of_le (pboth_lt HQ3.out z hz) (Nat.pow_le_pow_right (by omega) (by omega)))).mono ?_
                                  rw [show packsAny (pboth ps P) (W2 : Int) = (bpack (pboth ps P) W2, 0) by rw [packsAny_in _ _ HW2b.out.1, packs_ok (fun z hz => Nat.lt_of_lt_of_le (pboth_lt HQ3.out z hz) (Nat.pow_le_pow_right (by omega) (by rw [← HGPN.out]; exact HW2b.out.2)))]]
                                  rintro e w13 ⟨yv, rfl, hyv, hb13⟩
                                  have HOUTW := Lib.hid HOUT12.out
                                  have hown13 := own_below HOUT12.out hb13
                                  have hb413 := HB12.out.trans (hb13.mono HB12.out.size)
                                  have hz13 := hb413.size
                                  obtain ⟨Ax, nx, cx, rfl⟩ := IsV.shape (f := bv) HXV12.out
                                  obtain ⟨hnx, hAx, -, -, hlx⟩ := IsV.parts (f := bv) (IsB.below HXV12.out hb13)
                                  have hnxb : nx ≤ 5000 := by rw [← hnx, bpack_len]; exact Nat.le_trans (bsize_small (by have := HLL.out; omega) (by omega)) (by omega)
                                  have HNX := Lib.hid (show ((bpack (plow us W) W).map bv).length = nx by rw [List.length_map]; exact hnx)
                                  have HYV := Lib.hid hyv
                                  have HB13 := Lib.hid hb413
                                  clear hyv hb13 hnx
                                  go_wp2_with (at_builtin; refine wpList_join elemB rfl _ _ rfl w4.heap.size _ _ _ _ _ _ ((bpack (plow us W) W).map bv) w4 rfl rfl hAx HNX.out hlx (bv_one _) hown13 hb413 hz13 (by omega) (by omega) ?_)
                                  intro v14 w14 hown14 hb14 hgr14 _
                                  have hz14 := hb14.size
                                  have hyv14 := own_fresh HOUTW.out HYV.out hgr14
                                  obtain ⟨Ay, cy, hvy, hncy, hcmy, -, hly, hlny⟩ := own_shape hyv14
                                  obtain ⟨ny, hny⟩ : ∃ ny, ny = (bpack (pboth ps P) W2).length := ⟨_, rfl⟩
                                  rw [← hny] at hvy hncy
                                  have hnyb : ny ≤ 5000 := by rw [hny, bpack_len]; exact Nat.le_trans (bsize_small (by have := HLB.out; omega) HW2b.out.1) (by omega)
                                  have hAy : Ay = none → ny = 0 := by
                                    intro h
                                    subst h
                                    rcases hly with hly | ⟨_, h, _⟩
                                    · have := congrArg List.length hly; rw [List.length_map] at this; rw [hny]; simpa using this
                                    · cases h
                                  have HNY := Lib.hid (show ((bpack (pboth ps P) W2).map bv).length = ny by rw [List.length_map, hny])
                                  subst hvy
                                  clear hny hlny hcmy hncy hyv14 hgr14 hown13 hb413 hz13 hlx hAx
                                  go_wp2_with (at_builtin; refine wpList_join elemB rfl _ _ rfl w4.heap.size _ _ _ _ _ _ ((bpack (pboth ps P) W2).map bv) w4 rfl rfl hAy HNY.out hly (bv_one _) hown14 hb14 hz14 (by omega) (by omega) ?_)
                                  intro v15 w15 hown15 hb15 _ _
                                  have HO15 : Hid (IsB (play base us W) v15 w15) := Lib.hid (by
                                    unfold play
                                    rw [HPS.out, HXY.out, HPP.out, HGG.out, ← HGPN.out, ← HW2E.out, show us.length = n from HUL.out, ← HCWD.out]
                                    refine isB_own (n := 4 + nb + nx + ny) (base := w4.heap.size) (e := 5) ?_
                                    simpa only [List.map_append, List.map_cons, List.map_nil, List.append_assoc, List.cons_append, List.nil_append] using hown15)
                                  have HB15 := Lib.hid (below_then HB.out hb15)
                                  clear hown15 hb15 hown14 hb14 hz14 hly hAy
                                  go_wp2
                                  go_ret2
                                  rw [hE.out]
                                  exact ⟨_, rfl, HO15.out, HB15.out⟩
end Go.Proofs.YtdcgkjcefbceeaaDoor

/- The contract of layer 10's reference's Take. -/









namespace Go.Proofs.YtdcgkjcefbceeaaDoor

open Go.RowKit

theorem grown_trans {a b c : World} {g : Option Nat} (h1 : a.grownBy b g) (h2 : b.grownBy c g) : a.grownBy c g :=
  ⟨h2.os.trans h1.os, h2.tape.trans h1.tape, h2.output.trans h1.output, Nat.le_trans h1.size h2.size, fun k hk hg => (h2.block k (Nat.lt_of_lt_of_le hk h1.size) hg).trans (h1.block k hk hg)⟩
theorem grown_below {a b : World} {g : Option Nat} (h : Below a.heap.size a b) : a.grownBy b g := ⟨h.os, h.tape, h.output, h.size, fun k hk _ => h.block k hk⟩
theorem below_grownR {B g : Nat} {w a b : World} (h1 : Below B w a) (h2 : a.grownBy b (some g)) (hB : B ≤ g) (hz : B ≤ a.heap.size) : Below B w b :=
  ⟨h2.os.trans h1.os, h2.tape.trans h1.tape, h2.output.trans h1.output, Nat.le_trans h1.size h2.size, fun k hk => (h2.block k (by omega) (by intro e; injection e with e; omega)).trans (h1.block k hk)⟩
theorem own_block {w : World} {base n : Nat} {e : TypeId} {v : Value} {xs : List Value} (h : w.ownsRow base e 1 v n xs) (hn : 1 ≤ n) : ∃ g c, v = .slice (some ⟨g, 0, none⟩) n c ∧ base ≤ g ∧ g < w.heap.size ∧ n ≤ c ∧ c ≤ maxLen := by
  rcases h.2 with ⟨_, h0⟩ | ⟨g, c, cur, h1, h2, h3, h4, h5, _⟩
  · omega
  · exact ⟨g, c, h1, h2, (Array.getElem?_eq_some_iff.1 h3).1, h4, h5⟩
theorem own_not {w : World} {base n g : Nat} {e : TypeId} {v : Value} {xs : List Value} (h : w.ownsRow base e 1 v n xs) (hg : g < base) : v.ownBlock = none ∨ v.ownBlock ≠ some g := by
  rcases h.2 with ⟨h1, _⟩ | ⟨g', c, cur, h1, h2, _⟩
  · left; rw [h1]; rfl
  · right; rw [h1]; intro e; injection e with e; dsimp only at e; omega
/-- The first bytes of the base, in a loop. -/
def PSizeRel (x : List UInt8) (v i : Value) : Prop := ∃ (k : Nat) (U : Int), 1 ≤ k ∧ k ≤ x.length ∧ i = .int .i64 (k : Int) ∧ v = .int .u64 U ∧ U = ((bval (x.take k) % 2 ^ (8 * k - 1) : Nat) : Int)
/-- The pairs are laid upon the numbers, in a loop. -/
def PatRel (both low0 : List Nat) (w g p m : Nat) (W0 : World) (g0 base : Nat) (lv at_ i : Value) (wr : World) : Prop :=
  ∃ (k a : Nat) (low : List Nat), k ≤ both.length ∧ i = .int .i64 (k : Int) ∧ at_ = .int .i64 (a : Int) ∧ pall w g p m (0, low0) (both.take k) = some (a, low) ∧ low.length = m ∧ a < m ∧ (∀ z ∈ low, z < 2 ^ 64) ∧ wr.ownsRow base 62 1 lv m (low.map uv) ∧ W0.grownBy wr (some g0)
set_option maxHeartbeats 8000000 in
set_option maxRecDepth 100000 in
theorem rtake10_own (l : List UInt8) (v : Value) (s : Bool) (w : World) (hv : IsB l v w) (hb : l.length ≤ 1000000) :
    Calls Tryd.prog 13 #[v, .bool s] w (RetIO w (ptakeE l s)) := by
  have HLK := Lib.hid (rlook8_any l v w hv hb)
  obtain ⟨A, c, rfl, _⟩ := hv
  have hbd := dlook_bd l
  obtain ⟨K, C, M, r, x, hd⟩ : ∃ K C M r x, dlook l = (K, C, M, r, x) := ⟨_, _, _, _, _, rfl⟩
  rw [hd] at HLK hbd
  dsimp only at hbd
  obtain ⟨hK0, hK1, hC0, hC1, hM0, hM1, hr⟩ := hbd
  go_enter Tryd.func13, Tryd.ntmps13
  go_wp2_with fail
  refine HLK.out.mono ?_
  rintro e w1 ⟨rv, rfl, hrv, hb1⟩
  have HB := Lib.hid hb1
  have HRV : Hid (IsB r rv w1) := Lib.hid hrv
  clear hb1 hrv
  by_cases hx : x = 0
  case neg =>
    have hE := Lib.hid (ptakeE_head (l := l) (s := s) (.inl (by rw [hd]; exact hx)))
    have d0 : (x != 0) = true := by simpa using hx
    clear hd
    obtain ⟨A1, n1, c1, rfl⟩ := IsV.shape (f := bv) HRV.out
    go_wp2
    all_goals
      go_ret3
      rw [hE.out]
      exact RetIO.nil _ HB.out
  case pos =>
  subst hx
  by_cases hK : K = 2
  case neg =>
    have hE := Lib.hid (ptakeE_head (l := l) (s := s) (.inr (by rw [hd]; exact hK)))
    have d0 : (K != 2) = true := by simpa using hK
    clear hd
    obtain ⟨A1, n1, c1, rfl⟩ := IsV.shape (f := bv) HRV.out
    go_wp2
    all_goals
      go_ret3
      rw [hE.out]
      exact RetIO.nil _ HB.out
  case pos =>
  subst hK
  have hM11 := dlook_many hd
  have HE0 := Lib.hid (ptakeE_in (s := s) hd)
  clear hd hK0 hK1
  obtain ⟨A1, c1, rfl, hA1, hnc1, hcm1, hl1⟩ := HRV.out
  obtain ⟨N, hN⟩ : ∃ N, N = r.length := ⟨_, rfl⟩
  rw [← hN] at hA1 hnc1 ⊢
  have hN6 : N ≤ 1000000 := by omega
  by_cases hN2 : N < 2
  case pos =>
    have hE : Hid (ptakeE l s = ([], [], 2)) := Lib.hid (by rw [HE0.out, pbody_short (by omega)])
    have d0 : decide ((N : Int) < 2) = true := decide_eq_true (by omega)
    clear hN hl1 hcm1 hA1
    go_wp2
    go_ret3
    rw [hE.out]
    exact RetIO.nil _ HB.out
  case neg =>
  have d0 : decide ((N : Int) < 2) = false := decide_eq_false (by omega)
  obtain ⟨ad, rfl, had, hcell0⟩ := hl1.cell (k := 0) (by rw [List.length_map]; omega)
  obtain ⟨_, hAd, _, hcell1⟩ := hl1.cell (k := 1) (by rw [List.length_map]; omega)
  injection hAd with hAd
  subst hAd
  obtain ⟨b0, hb0⟩ : ∃ b : Nat, b = r[0].toNat := ⟨_, rfl⟩
  obtain ⟨b1, hb1⟩ : ∃ b : Nat, b = r[1].toNat := ⟨_, rfl⟩
  have hb08 : b0 < 256 := by rw [hb0]; exact UInt8.toNat_lt _
  have hb18 : b1 < 256 := by rw [hb1]; exact UInt8.toNat_lt _
  have hc0 : w1.cell? ad = some (.int .u8 (b0 : Int)) := by
    have h1 : ad.add 0 = ad := by unfold Addr.add; split <;> simp_all
    rw [← h1, hcell0, List.getElem_map, hb0]; rfl
  have hc1 : w1.cell? ⟨ad.block, ad.off + 1, none⟩ = some (.int .u8 (b1 : Int)) := by
    have h1 : ad.add 1 = ⟨ad.block, ad.off + 1, none⟩ := by unfold Addr.add; rw [if_neg (by omega)]
    rw [← h1, hcell1, List.getElem_map, hb1]; rfl
  obtain ⟨n, hn⟩ : ∃ n, n = b0 / 32 + 1 := ⟨_, rfl⟩
  obtain ⟨q0, hq0⟩ : ∃ q, q = b0 % 32 := ⟨_, rfl⟩
  obtain ⟨g, hg⟩ : ∃ g, g = b1 / 32 + 1 := ⟨_, rfl⟩
  obtain ⟨t, ht⟩ : ∃ t, t = b1 % 32 := ⟨_, rfl⟩
  have hni : (b0 : Int) / 32 + 1 = (n : Int) := by omega
  have hqi : (b0 : Int) % 32 = (q0 : Int) := by omega
  have hgi : (b1 : Int) / 32 + 1 = (g : Int) := by omega
  have hti : (b1 : Int) % 32 = (t : Int) := by omega
  have hn8 : n ≤ 8 := by omega
  have hn1 : 1 ≤ n := by omega
  have hg8 : g ≤ 8 := by omega
  have hg1 : 1 ≤ g := by omega
  have ht31 : t ≤ 31 := by omega
  obtain ⟨p, hp⟩ : ∃ p : Nat, wof (q0 : Int) = (p : Int) := ⟨(wof (q0 : Int)).toNat, by have := wof_bd (q0 : Int); omega⟩
  have hp64 : p ≤ 64 := by have := wof_bd (q0 : Int); omega
  have HOF := Lib.hid (fun X => rof_any (q0 : Int) X (by omega) (by omega))
  rw [hp] at HOF
  obtain ⟨d, hdd⟩ : ∃ d, d = r.drop 2 := ⟨_, rfl⟩
  have HPB := Lib.hid (pbody_eq (s := s) (c := C) (m := M) (by omega : 2 ≤ r.length) hb0 hb1 hn hg ht (by rw [← hq0]; exact hp) hdd)
  obtain ⟨v2, hv2, hI2⟩ := from_named (P := Tryd.prog) (w := w1) elemB (k := 2) (by omega) hnc1 hcm1 hN.symm hl1 hA1
  rw [← hdd] at hI2
  rw [show ((2 : Nat) : Int) = 2 from rfl] at hv2
  have hD2 : d.length + 2 = N := by rw [hdd, List.length_drop, hN]; omega
  have HI2 := Lib.hid hI2
  obtain ⟨A2, c2, hv2e, hA2, hnc2, hcm2, hl2⟩ := hI2
  obtain ⟨D, hD⟩ : ∃ D, D = d.length := ⟨_, rfl⟩
  rw [← hD] at hv2e hA2 hnc2 hD2
  subst hv2e
  have HD := Lib.hid hD
  clear hcell0 hcell1 hb0 hb1 hl1 hA1 hN hn hq0 hg ht hdd hD hcm1 hnc1 had
  obtain ⟨GP, hGP⟩ : ∃ GP, GP = g + p := ⟨_, rfl⟩
  have hGPi : (g : Int) + (p : Int) = (GP : Int) := by omega
  by_cases hgp : 64 < GP
  case pos =>
    have hE : Hid (ptakeE l s = ([], [], 2)) := Lib.hid (by rw [HE0.out, HPB.out, if_pos (.inl (by omega))])
    have d1 : decide ((64 : Int) < (GP : Int)) = true := decide_eq_true (by omega)
    clear hGP
    go_wp2_with (first | (refine wpList_slicedL rfl _ _ _ rfl _ (hv2 _) ?_) | (go_at_call 14; refine (HOF.out _).mono ?_; rintro e w' ⟨rfl, rfl⟩))
    all_goals
      go_ret3
      rw [hE.out]
      exact RetIO.nil _ HB.out
  case neg =>
  have d1 : decide ((64 : Int) < (GP : Int)) = false := decide_eq_false (by omega)
  by_cases hDn : D < n
  case pos =>
    have hE : Hid (ptakeE l s = ([], [], 2)) := Lib.hid (by rw [HE0.out, HPB.out, if_pos (.inr (by rw [← HD.out]; exact hDn))])
    have d2 : decide ((D : Int) < (n : Int)) = true := decide_eq_true (by omega)
    clear hGP
    go_wp2_with (first | (refine wpList_slicedL rfl _ _ _ rfl _ (hv2 _) ?_) | (go_at_call 14; refine (HOF.out _).mono ?_; rintro e w' ⟨rfl, rfl⟩))
    all_goals
      go_ret3
      rw [hE.out]
      exact RetIO.nil _ HB.out
  case neg =>
  have d2 : decide ((D : Int) < (n : Int)) = false := decide_eq_false (by omega)
  have hp63 : p ≤ 63 := by omega
  have HE1 : Hid (ptakeE l s = pbits s (pmade (d.take n)) C M g p t (d.drop n)) := Lib.hid (by rw [HE0.out, HPB.out, if_neg (by have := HD.out; omega)])
  have HGP := Lib.hid hGP
  clear hGP
  have hD0 : 0 < D := by omega
  have hD0i : (0 : Int) < (D : Int) := by omega
  have hDl : 0 < d.length := by have := HD.out; omega
  have hD6 : D ≤ 1000000 := by omega
  obtain ⟨ad2, rfl, had2, hcell2⟩ := hl2.cell (k := 0) (by rw [List.length_map]; exact hDl)
  obtain ⟨y0, hy0⟩ : ∃ y : Nat, y = d[0].toNat := ⟨_, rfl⟩
  have hy08 : y0 < 256 := by rw [hy0]; exact UInt8.toNat_lt _
  have hcy0 : w1.cell? ad2 = some (.int .u8 (y0 : Int)) := by
    have h1 : ad2.add 0 = ad2 := by unfold Addr.add; split <;> simp_all
    rw [← h1, hcell2, List.getElem_map, hy0]; rfl
  obtain ⟨xs, hxs⟩ : ∃ xs, xs = d.take n := ⟨_, rfl⟩
  have hxl : xs.length = n := by rw [hxs, List.length_take]; have := HD.out; omega
  have hx0 : ∀ h : 0 < xs.length, y0 = xs[0].toNat := by intro h; rw [hy0]; subst hxs; rw [List.getElem_take]
  have HX0 := Lib.hid hx0
  have HXL := Lib.hid hxl
  have HXS := Lib.hid hxs
  have h0st : PSizeRel xs (.int .u64 ((y0 : Int) % 128)) (.int .i64 1) := by
    refine ⟨1, _, Nat.le_refl _, by omega, rfl, rfl, ?_⟩
    rw [List.take_succ_eq_append_getElem (by omega), List.take_zero, List.nil_append, bval_cons, ← hx0 (by omega)]
    simp [bval]
  have HST := Lib.hid h0st
  have HL2 := Lib.hid hl2
  rw [← HXS.out] at HE1
  clear hcell2 hy0 hxs hxl hx0 h0st hl2
  go_wp2_with (first | (refine wpList_slicedL rfl _ _ _ rfl _ (hv2 _) ?_) | (go_at_call 14; refine (HOF.out _).mono ?_; rintro e w' ⟨rfl, rfl⟩))
  go_loop [16, 17] (PSizeRel xs) (fun _ i => n - (intOf i).toNat)
  case atStart => exact HST.out
  case round =>
    obtain ⟨k, U, hk1, hk, rfl, rfl, hU⟩ := hrel
    rw [HXL.out] at hk
    have HU := Lib.hid hU
    by_cases hlt : k < n
    · have hlti : (k : Int) < (n : Int) := by omega
      have hkD : (k : Int) < (D : Int) := by omega
      have hkd : k < d.length := by have := HD.out; omega
      obtain ⟨_, hAd, _, hcell⟩ := HL2.out.cell (k := k) (by rw [List.length_map]; exact hkd)
      injection hAd with hAd
      subst hAd
      obtain ⟨y, hy⟩ : ∃ y : Nat, y = d[k].toNat := ⟨_, rfl⟩
      have hy8 : y < 256 := by rw [hy]; exact UInt8.toNat_lt _
      have hcy : w1.cell? (ad2.add k) = some (.int .u8 (y : Int)) := by rw [hcell, List.getElem_map, hy]; rfl
      have hU0 : 0 ≤ U := by omega
      have hU7 : U < 72057594037927936 := by
        rw [hU]
        have h1 : bval (xs.take k) % 2 ^ (8 * k - 1) < 2 ^ (8 * k - 1) := Nat.mod_lt _ (Nat.two_pow_pos _)
        have h2 : 2 ^ (8 * k - 1) ≤ 2 ^ 56 := Nat.pow_le_pow_right (by omega) (by omega)
        omega
      have HN1 : Hid (256 * U + y = ((bval (xs.take (k + 1)) % 2 ^ (8 * (k + 1) - 1) : Nat) : Int)) := Lib.hid (by
        have hkx : k < xs.length := by rw [HXL.out]; exact hlt
        have e1 : xs[k].toNat = y := by rw [hy]; congr 1; have := HXS.out; subst this; rw [List.getElem_take]
        rw [bval_snoc_at _ _ hkx, e1, pmod_step hk1 hy8, HU.out]
        simp)
      clear hcell hy hU hcy0
      go_wp2
      go_round
      case rel => exact ⟨k + 1, 256 * U + y, by omega, by rw [HXL.out]; omega, by go_num, rfl, HN1.out⟩
      case measure => simp [intOf]; omega
    · obtain rfl : n = k := by omega
      have hlti : ¬ (n : Int) < (n : Int) := by omega
      obtain ⟨m, rfl⟩ := Int.eq_ofNat_of_zero_le (show 0 ≤ M by omega)
      have hm1 : 1 ≤ m := by omega
      have hm5 : m ≤ 512 := by omega
      obtain ⟨S, hS⟩ : ∃ S, S = bval xs % 2 ^ (8 * xs.length - 1) := ⟨_, rfl⟩
      have hUS : U = (S : Int) := by rw [hU, hS, List.take_of_length_le (by rw [HXL.out]; exact Nat.le_refl _), HXL.out]
      subst hUS
      obtain ⟨hps, hpi, hS63⟩ := pmade_step (by rw [HXL.out]; exact hn1) (by rw [HXL.out]; exact hn8) (HX0.out (by rw [HXL.out]; exact hn1)) hS
      obtain ⟨f, hf⟩ : ∃ f, f = decide (128 ≤ y0) := ⟨_, rfl⟩
      have df : decide ((128 : Int) ≤ (y0 : Int)) = f := by rw [hf]; exact decide_eq_decide.2 (by omega)
      obtain ⟨B, hB⟩ : ∃ B, B = pmade xs := ⟨_, rfl⟩
      rw [← hf, ← hB] at hps
      rw [← hB] at hpi HE1
      have HBI := Lib.hid hpi
      have hst9 := fun X => rstep9_any 0 (S : Int) f X ⟨by omega, by omega⟩ (by omega) (by omega)
      rw [Int.toNat_natCast, hps] at hst9
      have HSP := Lib.hid hst9
      obtain ⟨W, hW⟩ : ∃ W : Nat, wof C = (W : Int) := ⟨(wof C).toNat, by have := wof_bd C; omega⟩
      have hW64 : W ≤ 64 := by have := wof_bd C; omega
      have HWC := Lib.hid hW
      have HOC := Lib.hid (fun X => rof_any C X (by omega) (by omega))
      rw [hW] at HOC
      obtain ⟨v3, hv3, hI3⟩ := from_named (P := Tryd.prog) (w := w1) elemB (k := n) (by omega) hnc2 hcm2 HD.out.symm HL2.out (fun h => by cases h)
      have HI3 := Lib.hid hI3
      have HV3 := Lib.hid hv3
      obtain ⟨us, q, e1, hu⟩ : ∃ us q y, unpacksAny (d.drop n) (m : Int) (W : Int) = (us, q, y) := ⟨_, _, _, rfl⟩
      have HUN := Lib.hid (runpack_isO (m : Int) (W : Int) hI3 (by rw [List.length_drop]; have := HD.out; omega))
      rw [hu] at HUN
      have hlt := (unpacksAny_lt (l := d.drop n) (M := (m : Int)) (W := (W : Int))).1
      rw [hu] at hlt
      dsimp only at hlt
      have HLT := Lib.hid hlt
      have HUE := Lib.hid hu
      clear hlt hu hv3 hI3 hW hst9 hps hpi hB hf hS hU HU hcm2 hnc2 hk1 hk hS63 HST
      go_wp2_with (first | (go_at_call 44; refine (HSP.out _).mono ?_; rintro e w' ⟨rfl, rfl⟩) | (go_at_call 14; refine (HOC.out _).mono ?_; rintro e w' ⟨rfl, rfl⟩) | (refine wpList_slicedL rfl _ _ _ rfl _ (HV3.out _) ?_))
      refine HUN.out.mono ?_
      rintro e w2 ⟨u2, r2v, rfl, hu2, hq2, hb2⟩
      have HB2 := Lib.hid (below_then HB.out hb2)
      have HZ2 := Lib.hid hb2.size
      have HU2 := Lib.hid hu2
      have HQ2 := Lib.hid hq2.isB
      clear hu2 hq2 hb2 hcy0 hc0 hc1
      by_cases he1 : e1 = 0
      case neg =>
        have hE : Hid (ptakeE l s = ([], [], 2)) := Lib.hid (by rw [HE1.out, pbits_cut (by rw [HWC.out]; exact HUE.out) he1])
        have d3 : (e1 != 0) = true := by simpa using he1
        go_wp2
        go_ret3
        rw [hE.out]
        exact RetIO.nil _ HB2.out
      case pos =>
      subst he1
      obtain ⟨hul, hql⟩ := unpacksAny_len HUE.out
      have HUL := Lib.hid hul
      have HQL : Hid (q.length ≤ 1000000) := Lib.hid (by rw [List.length_drop] at hql; have := HD.out; omega)
      obtain ⟨W2, hW2⟩ : ∃ W : Nat, wclosest (GP : Int) = (W : Int) := ⟨(wclosest (GP : Int)).toNat, (pclose (by omega)).2.2.2.2.2.1⟩
      have HWCL := Lib.hid hW2
      have HCL := Lib.hid (fun X => rclosest_any (GP : Int) X)
      rw [hW2] at HCL
      obtain ⟨vs, q2, e2, hv⟩ : ∃ us r y, unpacksAny q (t : Int) (W2 : Int) = (us, r, y) := ⟨_, _, _, rfl⟩
      have HUN2 := Lib.hid (runpack_isO (t : Int) (W2 : Int) HQ2.out HQL.out)
      rw [hv] at HUN2
      have hlt := (unpacksAny_lt (l := q) (M := (t : Int)) (W := (W2 : Int))).1
      rw [hv] at hlt
      dsimp only at hlt
      have HLT2 := Lib.hid hlt
      have HVE := Lib.hid hv
      clear hlt hv hW2 hul hql
      go_wp2_with (go_at_call 33; refine (HCL.out _).mono ?_; rintro e w' ⟨rfl, rfl⟩)
      refine HUN2.out.mono ?_
      rintro e w3 ⟨u3, r3v, rfl, hu3, hq3, hb3⟩
      have HB3 := Lib.hid (below_then HB2.out hb3)
      have HLOW := Lib.hid (own_below HU2.out hb3)
      have HBOTH := Lib.hid hu3
      have HQ3 := Lib.hid hq3
      have HZ3 := Lib.hid hb3.size
      clear hu3 hq3 hb3
      by_cases he2 : e2 = 0
      case neg =>
        have hE : Hid (ptakeE l s = ([], [], 2)) := Lib.hid (by rw [HE1.out, pbits_cut2 (by rw [HWC.out]; exact HUE.out) (by rw [← HGP.out, HWCL.out]; exact HVE.out) he2])
        have d4 : (e2 != 0) = true := by simpa using he2
        go_wp2
        go_ret3
        rw [hE.out]
        exact RetIO.nil _ HB3.out
      case pos =>
      subst he2
      obtain ⟨hvl, hq2l⟩ := unpacksAny_len HVE.out
      have HVL := Lib.hid hvl
      have hu2 := HU2.out
      rw [HUL.out] at hu2
      obtain ⟨g0, c0, rfl, hg0, hg2, hmc0, hc0m⟩ := own_block hu2 hm1
      have hlow0 := HLOW.out
      rw [HUL.out] at hlow0
      have HGB : Hid (w.heap.size ≤ g0) := Lib.hid (by have := HB.out.size; omega)
      have HG2 := Lib.hid hg2
      obtain ⟨A3, c3, rfl, hnc3, hcm3, _, _, _⟩ := own_shape HBOTH.out
      have HE2 : Hid (ptakeE l s = pend s B W g p m us vs q2) := Lib.hid (by
        rw [HE1.out, pbits_in (by rw [HWC.out]; exact HUE.out) (by rw [← HGP.out, HWCL.out]; exact HVE.out), HWC.out]; rfl)
      have h0st : PatRel vs us W g p m w3 g0 w1.heap.size (.slice (some ⟨g0, 0, none⟩) m c0) (.int .i64 0) (.int .i64 0) w3 :=
        ⟨0, 0, us, by omega, rfl, rfl, by rw [List.take_zero, pall], HUL.out, by omega, HLT.out, hlow0, ⟨rfl, rfl, rfl, Nat.le_refl _, fun _ _ _ => rfl⟩⟩
      have HST := Lib.hid h0st
      rw [HVL.out] at hnc3 ⊢
      have hmi : ¬ (m : Int) ≤ 0 := by omega
      clear hvl hq2l hu2 hlow0 h0st hg0 hg2 hmi hcm3
      go_wp2
      go_loopw [23, 24] (PatRel vs us W g p m w3 g0 w1.heap.size (.slice (some ⟨g0, 0, none⟩) m c0)) (fun _ i _ => t - (intOf i).toNat)
      case atStart => exact HST.out
      case round =>
        obtain ⟨k, a, low, hk, rfl, rfl, hpl, hll, ham, hlo, hown, hgr⟩ := hrel
        rw [HVL.out] at hk
        have HPL := Lib.hid hpl
        have HLL0 := Lib.hid hll
        have HLO := Lib.hid hlo
        have HOWN0 := Lib.hid hown
        have HGR0 := Lib.hid hgr
        have HSTT := HST
        clear HST
        by_cases hlt : k < t
        · have hlti : (k : Int) < (t : Int) := by omega
          have hkv : k < vs.length := by have := HVL.out; omega
          have hbk := isV_own (f := uv) (HBOTH.out.kept hgr (own_not HBOTH.out HG2.out))
          rw [HVL.out] at hbk
          obtain ⟨ad3, rfl, _, hcell⟩ := hbk.at hkv
          obtain ⟨x, hx⟩ : ∃ x, x = vs[k] := ⟨_, rfl⟩
          have hcx : wr.cell? (ad3.add k) = some (.int .u64 (x : Int)) := by rw [hcell, hx]; rfl
          have hx64 : x < 2 ^ 64 := by rw [hx]; exact HLT2.out _ (List.getElem_mem hkv)
          have HNX0 := Lib.hid (pall_next hkv hx hpl)
          obtain ⟨gap, hgap⟩ : ∃ gap, gap = x / 2 ^ p := ⟨_, rfl⟩
          obtain ⟨pat, hpat⟩ : ∃ pat, pat = x % 2 ^ p := ⟨_, rfl⟩
          have HPS := Lib.hid (pstep_eq (w := W) (g := g) (m := m) (at_ := a) (low := low) hgap hpat)
          obtain ⟨K, hK⟩ : ∃ K, K = 2 ^ p := ⟨_, rfl⟩
          obtain ⟨K1, hK1⟩ : ∃ K1, K1 = K - 1 := ⟨_, rfl⟩
          obtain ⟨GG, hGG⟩ : ∃ GG, GG = 2 ^ g := ⟨_, rfl⟩
          have hkp : 1 ≤ K := by rw [hK]; exact Nat.one_le_two_pow
          have hK63 : K ≤ 9223372036854775808 := by rw [hK]; exact Nat.pow_le_pow_right (n := 2) (i := p) (j := 63) (by omega) hp63
          have hGG8 : GG ≤ 256 := by rw [hGG]; exact Nat.pow_le_pow_right (n := 2) (i := g) (j := 8) (by omega) hg8
          have hshr : (x : Int) / (K : Int) = (gap : Int) := by rw [hgap, hK]; simp
          have hKc : (2 : Int) ^ p = (K : Int) := by rw [hK]; simp
          have hKw : IntKind.u64.wrap (K : Int) = (K : Int) := by rw [IntKind.wrap_u64]; omega
          have hK1i : (K : Int) - 1 = (K1 : Int) := by omega
          have hK1w : IntKind.u64.wrap (K1 : Int) = (K1 : Int) := by rw [IntKind.wrap_u64]; omega
          have hGc : (2 : Int) ^ g = (GG : Int) := by rw [hGG]; simp
          have hGw : IntKind.u64.wrap (GG : Int) = (GG : Int) := by rw [IntKind.wrap_u64]; omega
          have hand : bits .and .u64 (x : Int) (K1 : Int) = (pat : Int) := by rw [u64_and _ _ (by omega) (by omega) (by omega) (by omega), Int.toNat_natCast, Int.toNat_natCast, hK1, hK, Nat.and_two_pow_sub_one_eq_mod, hpat]
          have HPT : Hid (pat < 2 ^ 64) := Lib.hid (by rw [hpat]; exact Nat.lt_of_le_of_lt (Nat.mod_le _ _) hx64)
          have HGX := Lib.hid (show GG = 2 ^ g from hGG)
          clear hcell hx hx64 hgap hpat hK hK1 hkp hK63 hGG hpl hll hlo hown hgr hbk
          go_wp2
          go_quiet (fail)
          obtain ⟨wd, hwd⟩ : ∃ wd, wd = wr.drewN nq := ⟨_, rfl⟩
          have HOWN : Hid (wd.ownsRow w1.heap.size 62 1 (.slice (some ⟨g0, 0, none⟩) m c0) m (low.map uv)) := Lib.hid (by rw [hwd]; exact own_drewN HOWN0.out nq)
          have HGR : Hid (w3.grownBy wd (some g0)) := Lib.hid (by rw [hwd]; exact grown_trans HGR0.out (grown_below (below_drewN (Below.refl _ _) nq)))
          rw [← hwd]
          clear hwd hcx HOWN0 HGR0
          by_cases hA : GG ≤ gap
          case pos =>
            have hE : Hid (ptakeE l s = ([], [], 2)) := Lib.hid (by
              rw [HE2.out, pend_none (pall_take_none (k := k + 1) (by rw [HNX0.out, HPS.out, if_neg (by rw [← HGX.out]; omega)]))])
            have d5 : decide ((GG : Int) ≤ (gap : Int)) = true := decide_eq_true (by omega)
            go_wp2
            go_ret3
            rw [hE.out]
            exact RetIO.nil _ (below_grownR HB3.out HGR.out HGB.out HB3.out.size)
          case neg =>
          have d5 : decide ((GG : Int) ≤ (gap : Int)) = false := decide_eq_false (by omega)
          have hgap8 : gap < 256 := by omega
          have hgw : IntKind.i64.wrap (gap : Int) = (gap : Int) := by rw [IntKind.wrap_i64]; omega
          obtain ⟨a1, ha1e⟩ : ∃ a1, a1 = a + gap := ⟨_, rfl⟩
          have hai : (a : Int) + (gap : Int) = (a1 : Int) := by omega
          rw [← ha1e] at HPS
          have ha1b : a1 ≤ 1000 := by omega
          clear ha1e
          by_cases hBm : m ≤ a1
          case pos =>
            have hE : Hid (ptakeE l s = ([], [], 2)) := Lib.hid (by
              rw [HE2.out, pend_none (pall_take_none (k := k + 1) (by rw [HNX0.out, HPS.out, if_neg (by omega)]))])
            have d6 : decide ((m : Int) ≤ (a1 : Int)) = true := decide_eq_true (by omega)
            go_wp2
            go_ret3
            rw [hE.out]
            exact RetIO.nil _ (below_grownR HB3.out HGR.out HGB.out HB3.out.size)
          case neg =>
          have d6 : decide ((m : Int) ≤ (a1 : Int)) = false := decide_eq_false (by omega)
          obtain ⟨nb, hnb⟩ : ∃ nb, nb = wbits pat := ⟨_, rfl⟩
          have hnb64 : nb ≤ 64 := by rw [hnb]; exact wbits_64 HPT.out
          have HBT := Lib.hid (fun X => rbits_any pat X HPT.out)
          rw [← hnb] at HBT HPS
          obtain ⟨nW, hnW⟩ : ∃ nW, nW = nb + W := ⟨_, rfl⟩
          have hnWi : (nb : Int) + (W : Int) = (nW : Int) := by omega
          by_cases hC : nW ≤ 63 ∨ pat = 0
          case neg =>
            have hE : Hid (ptakeE l s = ([], [], 2)) := Lib.hid (by
              rw [HE2.out, pend_none (pall_take_none (k := k + 1) (by rw [HNX0.out, HPS.out, if_neg (by omega)]))])
            have d7 : decide ((63 : Int) < (nW : Int)) = true := decide_eq_true (by omega)
            have d8 : ((pat : Int) != 0) = true := by simp; omega
            clear hnb hnW
            go_wp2_with (go_at_call 32; refine (HBT.out _).mono ?_; rintro e w' ⟨rfl, rfl⟩)
            go_ret3
            rw [hE.out]
            exact RetIO.nil _ (below_grownR HB3.out HGR.out HGB.out HB3.out.size)
          case pos =>
          have ha1 : a1 < m := by omega
          have hlen := HLL0.out
          obtain ⟨y, hy⟩ : ∃ y, y = low.getD a1 0 := ⟨_, rfl⟩
          have hyl : low[a1]? = some y := by rw [hy, List.getD_eq_getElem?_getD, List.getElem?_eq_getElem (by omega)]; rfl
          have hy64 : y < 2 ^ 64 := HLO.out y (List.mem_of_getElem? hyl)
          obtain ⟨Z, hZ⟩ : ∃ Z, Z = pat * 2 ^ W := ⟨_, rfl⟩
          have hZ63 : Z < 2 ^ 63 := by rw [hZ]; exact patch_lt HPT.out (by rw [← hnb]; omega)
          obtain ⟨z, hz⟩ : ∃ z, z = y ^^^ Z := ⟨_, rfl⟩
          have HZC := Lib.hid (show (pat : Int) * 2 ^ W = (Z : Int) by rw [hZ]; simp)
          have HZW : Hid (IntKind.u64.wrap (Z : Int) = (Z : Int)) := Lib.hid (by rw [IntKind.wrap_u64]; omega)
          have HXO : Hid (bits .xor .u64 (y : Int) (Z : Int) = (z : Int)) := Lib.hid (by rw [u64_xor_nat y Z (by omega) (by omega), hz])
          have HADD : Hid ((⟨g0, 0, none⟩ : Addr).add a1 = ⟨g0, a1, none⟩) := Lib.hid (by unfold Addr.add; split <;> simp_all)
          have HCL : Hid (wd.cell? ⟨g0, a1, none⟩ = some (.int .u64 (y : Int))) := Lib.hid (by rw [HOWN.out.cellAt a1 (by omega), List.getElem?_map, hyl]; rfl)
          have HGL : Hid (g0 < wd.heap.size) := Lib.hid (by have := HGR.out.size; have := HG2.out; have := HZ3.out; omega)
          have hnx : pall W g p m (0, us) (vs.take (k + 1)) = some (a1, low.set a1 z) := by
            rw [HNX0.out, HPS.out, if_pos ⟨by rw [← HGX.out]; omega, ha1, by rw [← hnW]; exact hC⟩, ← hy, ← hZ, ← hz]
          have HNX := Lib.hid hnx
          have HLL := HLL0
          have HL64 : Hid (∀ e ∈ low.set a1 z, e < 2 ^ 64) := Lib.hid (fun e he => by
            rcases List.mem_or_eq_of_mem_set he with h | h
            · exact HLO.out e h
            · rw [h, hz]; exact Nat.xor_lt_two_pow hy64 (by omega))
          clear hlen hy hyl hy64 hZ hZ63 hz hnx hnb hnW
          have d7 : decide ((63 : Int) < (nW : Int)) = false ∨ (decide ((63 : Int) < (nW : Int)) = true ∧ ((pat : Int) != 0) = false) := by
            by_cases h : nW ≤ 63
            · exact .inl (decide_eq_false (by omega))
            · exact .inr ⟨decide_eq_true (by omega), by simp; omega⟩
          clear hC
          rcases d7 with d7 | ⟨d7, d8⟩
          all_goals
            go_wp2_with (go_at_call 32; refine (HBT.out _).mono ?_; rintro e w' ⟨rfl, rfl⟩)
            refine wp_region_list_tail 11 [.is (.slice (some ⟨g0, 0, none⟩) m c0), .is (.int .i64 (a1 : Int)), .is (.slice (some ⟨g0, 0, none⟩) m c0), .is (.int .i64 (a1 : Int)), .is (.pointer (some ⟨g0, a1, none⟩)), .is (.int .u64 (y : Int)), .is (.int .u64 (pat : Int)), .is (.int .i64 (W : Int)), .is (.int .u64 (Z : Int)), .is (.int .u64 (z : Int)), .is (.pointer (some ⟨g0, a1, none⟩))] [some 180, some 181, some 182, some 183, some 184, some 185, some 186, some 187, some 188, some 189, some 190] (by kernel_rfl) (by kernel_rfl) (by kernel_rfl) (by kernel_rfl) rfl ⟨?_, ?_, ?_, ?_, ?_, ?_, ?_, ?_, ?_, ?_, ?_, trivial⟩ ?_
            · intro ρ W1 hb1 H
              exact gives_move rfl (H.old 21 _ (by kernel_rfl) rfl) ⟨rfl, Below.refl _ _⟩
            · intro ρ W1 hb1 H
              exact gives_move rfl (H.old 23 _ (by kernel_rfl) rfl) ⟨rfl, Below.refl _ _⟩
            · intro ρ W1 hb1 H
              exact gives_move rfl (H.old 21 _ (by kernel_rfl) rfl) ⟨rfl, Below.refl _ _⟩
            · intro ρ W1 hb1 H
              exact gives_move rfl (H.old 23 _ (by kernel_rfl) rfl) ⟨rfl, Below.refl _ _⟩
            · intro ρ W1 hb1 H
              exact gives_index (k := a1) elemU rfl (H.new 182 2 (by kernel_rfl)) (H.new 183 3 (by kernel_rfl)) ha1 ⟨congrArg (fun q => Value.pointer (some q)) HADD.out, Below.refl _ _⟩
            · intro ρ W1 hb1 H
              exact gives_load rfl (H.new 184 4 (by kernel_rfl)) Tryd.underlying62 rfl ((hb1.cell HGL.out).trans HCL.out) ⟨rfl, Below.refl _ _⟩
            · intro ρ W1 hb1 H
              exact gives_move rfl (H.old 26 _ (by kernel_rfl) rfl) ⟨rfl, Below.refl _ _⟩
            · intro ρ W1 hb1 H
              exact gives_move rfl (H.old 20 _ (by kernel_rfl) rfl) ⟨rfl, Below.refl _ _⟩
            · intro ρ W1 hb1 H
              exact gives_shl64 (k := W) rfl (H.new 186 6 (by kernel_rfl)) (H.new 187 7 (by kernel_rfl)) hW64 (by rw [HZC.out]; exact HZW.out) ⟨rfl, Below.refl _ _⟩
            · intro ρ W1 hb1 H
              exact gives_xor64 rfl (H.new 185 5 (by kernel_rfl)) (H.new 188 8 (by kernel_rfl)) HXO.out ⟨rfl, Below.refl _ _⟩
            · intro ρ W1 hb1 H
              exact gives_index (k := a1) elemU rfl (H.new 180 0 (by kernel_rfl)) (H.new 181 1 (by kernel_rfl)) ha1 ⟨congrArg (fun q => Value.pointer (some q)) HADD.out, Below.refl _ _⟩
            · intro vs W1 hb1 hfs
              have f0 : vs 0 = (.slice (some ⟨g0, 0, none⟩) m c0) := hfs 0 (by decide)
              have f1 : vs 1 = (.int .i64 (a1 : Int)) := hfs 1 (by decide)
              have f2 : vs 2 = (.slice (some ⟨g0, 0, none⟩) m c0) := hfs 2 (by decide)
              have f3 : vs 3 = (.int .i64 (a1 : Int)) := hfs 3 (by decide)
              have f4 : vs 4 = (.pointer (some ⟨g0, a1, none⟩)) := hfs 4 (by decide)
              have f5 : vs 5 = (.int .u64 (y : Int)) := hfs 5 (by decide)
              have f6 : vs 6 = (.int .u64 (pat : Int)) := hfs 6 (by decide)
              have f7 : vs 7 = (.int .i64 (W : Int)) := hfs 7 (by decide)
              have f8 : vs 8 = (.int .u64 (Z : Int)) := hfs 8 (by decide)
              have f9 : vs 9 = (.int .u64 (z : Int)) := hfs 9 (by decide)
              have f10 : vs 10 = (.pointer (some ⟨g0, a1, none⟩)) := hfs 10 (by decide)
              clear hfs
              simp only [putAll, Nat.zero_add, Nat.reduceAdd, List.drop_succ_cons, List.drop_zero]
              rw [f0, f1, f2, f3, f4, f5, f6, f7, f8, f9, f10]
              clear f0 f1 f2 f3 f4 f5 f6 f7 f8 f9 f10
              simp only [Act.put, List.setIfInBounds_toArray, List.set_cons_succ, List.set_cons_zero]
              have hownW := own_below HOWN.out hb1
              have hgrW := grown_trans HGR.out (grown_below hb1)
              have hcW : W1.cell? ⟨g0, a1, none⟩ = some (.int .u64 (y : Int)) := (hb1.cell HGL.out).trans HCL.out
              have hfW := hownW.frozenAt a1
              have HST1 := Lib.hid (hownW.stored a1 (uv z)).1
              have HST2 := Lib.hid (grown_trans hgrW (hownW.stored a1 (uv z)).2)
              clear hownW hgrW hb1
              go_wp2
              go_roundw
              case rel => exact ⟨k + 1, a1, _, by have := HVL.out; omega, by go_num, rfl, HNX.out, by rw [List.length_set]; exact HLL.out, ha1, HL64.out, by rw [List.map_set]; exact HST1.out, HST2.out⟩
              case measure => simp [intOf]; omega
        · obtain rfl : t = k := by omega
          have hlti : ¬ (t : Int) < (t : Int) := by omega
          have hpl2 := HPL.out
          rw [List.take_of_length_le (by rw [HVL.out]; exact Nat.le_refl _)] at hpl2
          have HE3 : Hid (ptakeE l s = match omap (gnext s false B) low with | none => ([], [], 2) | some xs => (xs, q2, 0)) := Lib.hid (by rw [HE2.out, pend_some hpl2]; try (cases omap (gnext s false B) low <;> rfl))
          have HLL := HLL0
          have HB4 := Lib.hid (below_grownR HB3.out HGR0.out HGB.out HB3.out.size)
          have HQ4 : Hid (OwnB w q2 r3v wr) := Lib.hid (OwnB.base HB2.out.size (HQ3.out.elim fun _ h => ⟨_, h.kept HGR0.out (own_not h HG2.out)⟩))
          have HLV := Lib.hid (isV_own (f := uv) HOWN0.out)
          generalize wr = w4 at *
          have hst5 : OmapRel (gnext s false B) iv 3 low w4 (.slice (some ⟨w4.heap.size, 0, none⟩) 0 0) (.int .i64 0) (w4.alloc (.cells #[] 3)) := ⟨0, [], by omega, rfl, rfl, own_made w4 _, (Below.refl _ _).alloc (Nat.le_refl _) _⟩
          have HST5 := Lib.hid hst5
          clear hpl hll ham hlo hown hgr hpl2 hst5 hk HPL HOWN0 HGR0 HSTT
          go_wp2
          go_loopw [27, 28] (OmapRel (gnext s false B) iv 3 low w4) (fun _ i _ => m - (intOf i).toNat)
          case atStart => exact HST5.out
          case round =>
            obtain ⟨k, acc, hk, rfl, hacc, hown, hbw⟩ := hrel
            have hz := hbw.size
            have hal : acc.length = k := by rw [omap_len hacc, List.length_take]; omega
            have HACC := Lib.hid hacc
            have HAL := Lib.hid hal
            have hk' : k ≤ m := by have := HLL.out; omega
            have HST55 := HST5
            clear hacc HST5
            rw [hal] at hown
            clear hal
            by_cases hlt : k < m
            · have hkl : k < low.length := by have := HLL.out; omega
              have hlti : (k : Int) < (m : Int) := by omega
              obtain ⟨ad5, e5, _, hcell⟩ := (HLV.out.below hbw).at hkl
              injection e5 with e5
              subst e5
              obtain ⟨x, hx⟩ : ∃ x, x = low[k] := ⟨_, rfl⟩
              have hcx : wr.cell? ((⟨g0, 0, none⟩ : Addr).add k) = some (.int .u64 (x : Int)) := by rw [hcell, hx]; rfl
              have hcx2 : wr.cell? ⟨g0, k, none⟩ = some (.int .u64 (x : Int)) := by
                have e0 : (⟨g0, 0, none⟩ : Addr).add k = ⟨g0, k, none⟩ := by unfold Addr.add; split <;> simp_all
                rw [← e0]; exact hcx
              have HX64 : Hid ((x : Int) < 18446744073709551616) := Lib.hid (by
                have h1 : x < 2 ^ 64 := by rw [hx]; exact HLO.out _ (List.getElem_mem hkl)
                have h2 : x < 18446744073709551616 := h1
                omega)
              have hgs := rstep9_any B (x : Int) false wr HBI.out (by omega) HX64.out
              rw [Int.toNat_natCast] at hgs
              obtain ⟨y, ok, hy⟩ : ∃ y ok, gstep B x false = (y, ok) := ⟨_, _, rfl⟩
              rw [hy] at hgs
              have HGS := Lib.hid hgs
              have hnx : gnext s false B x = if ok = true ∧ (s = true ∨ 0 ≤ y) then some y else none := by unfold gnext; rw [hy]
              have HNX := Lib.hid hnx
              have HXE := Lib.hid hx
              have hyb : inInt y := by have := gstep_bd (u := x) (f := false) HBI.out; rw [hy] at this; exact this
              have HYB := Lib.hid hyb
              clear hgs hy hyb hnx hcell hx
              by_cases hgo : ok = true ∧ (s = true ∨ 0 ≤ y)
              · have HAN : Hid (omap (gnext s false B) (low.take (k + 1)) = some (acc ++ [y])) := Lib.hid (omap_take hkl HACC.out (by rw [← HXE.out, HNX.out, if_pos hgo]))
                obtain ⟨rfl, hsy⟩ := hgo
                have hcase : decide (y < 0) = false ∨ (decide (y < 0) = true ∧ s = true) := by
                  rcases hsy with h | h
                  · by_cases h2 : y < 0
                    · exact .inr ⟨decide_eq_true h2, h⟩
                    · exact .inl (decide_eq_false h2)
                  · exact .inl (decide_eq_false (by omega))
                clear hsy
                rcases hcase with hd0 | ⟨hd0, rfl⟩
                all_goals
                  go_wp2_with (first | (go_at_call 44; refine HGS.out.mono ?_; rintro e w' ⟨rfl, rfl⟩) | (at_builtin; refine wpList_push elemI rfl _ _ rfl w4.heap.size _ _ _ (iv y) wr w4 rfl rfl rfl rfl hown hbw hz (by omega) (by omega) ?_))
                  intro v5 w5 hown5 hb5 _ _
                  have hown6 : w5.ownsRow w4.heap.size 3 1 v5 (acc ++ [y]).length ((acc ++ [y]).map iv) := by
                    rw [List.length_append, List.length_singleton, List.map_append, List.map_singleton, HAL.out]
                    exact hown5
                  have HO6 := Lib.hid hown6
                  have HB6 := Lib.hid hb5
                  clear hown5 hown hown6 hb5
                  go_wp2
                  go_roundw
                  case rel => exact ⟨k + 1, _, by have := HLL.out; omega, by go_num, HAN.out, HO6.out, HB6.out⟩
                  case measure => simp [intOf]; omega
              · have hE : Hid (ptakeE l s = ([], [], 2)) := Lib.hid (by
                  rw [HE3.out, omap_none (x := x) (by rw [HXE.out]; exact List.getElem_mem hkl) (by rw [HNX.out, if_neg hgo])])
                have hcase : ok = false ∨ (ok = true ∧ decide (y < 0) = true ∧ s = false) := by
                  cases ok with
                  | false => exact .inl rfl
                  | true =>
                    refine .inr ⟨rfl, ?_, ?_⟩
                    · exact decide_eq_true (Int.not_le.1 fun h => hgo ⟨rfl, .inr h⟩)
                    · cases s with | false => rfl | true => exact absurd ⟨rfl, .inl rfl⟩ hgo
                have HB7 := Lib.hid (below_then HB4.out hbw)
                clear hgo hown hbw
                rcases hcase with rfl | ⟨rfl, hd0, rfl⟩
                all_goals
                  go_wp2_with (go_at_call 44; refine HGS.out.mono ?_; rintro e w' ⟨rfl, rfl⟩)
                  go_ret3
                  rw [hE.out]
                  exact RetIO.nil _ HB7.out
            · obtain rfl : k = m := by omega
              have hlti : ¬ (k : Int) < (k : Int) := by omega
              have hE : Hid (ptakeE l s = (acc, q2, 0)) := Lib.hid (by
                have h1 := HACC.out
                rw [List.take_of_length_le (by rw [HLL.out]; exact Nat.le_refl _)] at h1
                rw [HE3.out, h1])
              have HO := Lib.hid (isV_own (f := iv) hown)
              have HQ5 := Lib.hid (HQ4.out.below hbw)
              have HB7 := Lib.hid (below_then HB4.out hbw)
              clear hown hbw
              go_wp2
              go_ret3
              rw [hE.out]
              exact ⟨_, _, rfl, HO.out, HQ5.out, HB7.out⟩
theorem rtake10_any (l : List UInt8) (v : Value) (s : Bool) (w : World) (hv : IsB l v w) (hb : l.length ≤ 1000000) :
    Calls Tryd.prog 13 #[v, .bool s] w (RetIB w (ptakeE l s)) := (rtake10_own l v s w hv hb).mono fun _ _ h => h.ib
end Go.Proofs.YtdcgkjcefbceeaaDoor

/- patched's own contracts: lowest, isCount, isWidth, and a shape's methods hasRoom and pairWidth. -/







namespace Go.Proofs.YtdcgkjcefbceeaaDoor

open Go.RowKit

theorem plow_any (n L : Nat) (w : World) (h : n ≤ 64) (hL : L = 2 ^ n - 1) : Calls Tryd.prog 50 #[.int .i64 (n : Int)] w fun e w' => e = .returned (.int .u64 (L : Int)) ∧ w = w' := by
  have h1 : 2 ^ n ≤ 2 ^ 64 := Nat.pow_le_pow_right (by omega) h
  have h2 : 1 ≤ 2 ^ n := Nat.one_le_two_pow
  have h3 : ((2 ^ n : Nat) : Int) = 2 ^ n := by simp
  have HE : Hid (IntKind.u64.wrap (IntKind.u64.wrap (2 ^ n) - 1) = (L : Int)) := Lib.hid (by
    rw [← h3, IntKind.wrap_u64, IntKind.wrap_u64, hL]
    generalize 2 ^ n = p at *
    omega)
  clear h1 h2 h3 hL
  go_enter Tryd.func50, Tryd.ntmps50
  go_wp2
  go_ret
  exact ⟨ret_int HE.out, rfl⟩
theorem pcount_yes (n : Int) (w : World) (h0 : 1 ≤ n) (h1 : n ≤ 512) : Calls Tryd.prog 15 #[.int .i64 n] w fun e w' => e = .returned (.bool true) ∧ w = w' := by
  go_enter Tryd.func15, Tryd.ntmps15
  go_wp2
  go_ret
  exact ⟨rfl, rfl⟩
theorem pcount_no (n : Int) (w : World) (h : n < 1 ∨ 512 < n) : Calls Tryd.prog 15 #[.int .i64 n] w fun e w' => e = .returned (.bool false) ∧ w = w' := by
  rcases h with h | h
  · have h2 : decide (1 ≤ n) = false := by simp; omega
    go_enter Tryd.func15, Tryd.ntmps15
    go_wp2
    go_ret
    exact ⟨rfl, rfl⟩
  · have h2 : decide (n ≤ 512) = false := by simp; omega
    have h3 : decide (1 ≤ n) = true := by simp; omega
    go_enter Tryd.func15, Tryd.ntmps15
    go_wp2
    go_ret
    exact ⟨rfl, rfl⟩
theorem pisw_any (W : Int) (w : World) (ht : WTab w) : Calls Tryd.prog 16 #[.int .i64 W] w fun e w' => e = .returned (.bool (decide (W < 64) && decide (0 ≤ wcode W))) ∧ w = w' := by
  have HC := Lib.hid (code_any W w ht)
  obtain ⟨c, hc⟩ : ∃ c, c = wcode W := ⟨_, rfl⟩
  rw [← hc] at HC ⊢
  clear ht hc
  by_cases h : W < 64
  · have h1 : decide (W < 64) = true := decide_eq_true h
    rw [h1, Bool.true_and]
    obtain ⟨d, hd⟩ : ∃ d, d = decide (0 ≤ c) := ⟨_, rfl⟩
    have hd' := hd.symm
    rw [hd']
    clear hd h
    go_enter Tryd.func16, Tryd.ntmps16
    go_wp2_with (go_at_call 46; refine HC.out.mono ?_; rintro e w' ⟨rfl, rfl⟩)
    go_ret
    exact ⟨rfl, rfl⟩
  · have h1 : decide (W < 64) = false := decide_eq_false h
    rw [h1, Bool.false_and]
    clear h
    go_enter Tryd.func16, Tryd.ntmps16
    go_wp2
    go_ret
    exact ⟨rfl, rfl⟩
/-- A shape's cells. -/
def shc (m W n p g t : Int) : List Value := [.int .i64 m, .int .i64 W, .int .i64 n, .int .i64 p, .int .i64 g, .int .i64 t]
def shv (m W n p g t : Int) : Value := .agg (shc m W n p g t).toArray
theorem shc_len (m W n p g t : Int) : (shc m W n p g t).length = 6 := rfl
theorem shc_one (m W n p g t : Int) : ∀ u ∈ shc m W n p g t, u.oneCell' = true := by
  intro u hu
  simp only [shc, List.mem_cons, List.not_mem_nil, or_false] at hu
  rcases hu with h | h | h | h | h | h <;> (subst h; rfl)
theorem proom_any (m W n p g t : Int) (w : World) (hp : 0 ≤ p ∧ p ≤ 1000) (hg : 0 ≤ g ∧ g ≤ 1000) : Calls Tryd.prog 22 #[shv m W n p g t] w fun e w' => e = .returned (.bool (decide (g + p ≤ 64))) ∧ Below w.heap.size w w' := by
  have hw : IntKind.i64.wrap (g + p) = g + p := by rw [IntKind.wrap_i64]; omega
  obtain ⟨x, hx⟩ : ∃ x, x = g + p := ⟨_, rfl⟩
  rw [← hx] at hw ⊢
  have hx' := hx.symm
  obtain ⟨d, hd⟩ : ∃ d, d = decide (x ≤ 64) := ⟨_, rfl⟩
  have hd' := hd.symm
  rw [hd']
  clear hx hd hp hg
  unfold shv shc
  go_enter Tryd.func22, Tryd.ntmps22
  go_wp2
  go_ret
  exact ⟨rfl, (Below.refl _ _).alloc (Nat.le_refl _) _⟩
theorem ppair_any (m W n p g t : Int) (w : World) (ht : WTab w) (hp : 0 ≤ p ∧ p ≤ 1000) (hg : 0 ≤ g ∧ g ≤ 1000) : Calls Tryd.prog 25 #[shv m W n p g t] w fun e w' => e = .returned (.int .i64 (wclosest (g + p))) ∧ Below w.heap.size w w' := by
  have hw : IntKind.i64.wrap (g + p) = g + p := by rw [IntKind.wrap_i64]; omega
  obtain ⟨x, hx⟩ : ∃ x, x = g + p := ⟨_, rfl⟩
  rw [← hx] at hw ⊢
  have hx' := hx.symm
  have HC := Lib.hid (fun W (h : WTab W) => closest_any x W h)
  have HT := Lib.hid (ht.below ((Below.refl w.heap.size w).alloc (Nat.le_refl _) (.cells (shc m W n p g t).toArray 48)) ht.lt)
  unfold shc at HT
  clear hx hp hg ht
  unfold shv shc
  go_enter Tryd.func25, Tryd.ntmps25
  go_wp2_with (go_at_call 51; refine (HC.out _ HT.out).mono ?_; rintro e w' ⟨rfl, rfl⟩)
  go_ret
  exact ⟨rfl, (Below.refl _ _).alloc (Nat.le_refl _) _⟩
end Go.Proofs.YtdcgkjcefbceeaaDoor

/- patched's own contracts: digitsOf (a base as bytes), number (the base that bytes are). -/





namespace Go.Proofs.YtdcgkjcefbceeaaDoor

open Go.RowKit

theorem gdiff_base {base : Int} (hb : inInt base) (hne : base ≠ -9223372036854775808) : gdiff 0 base = (psize base, decide (base < 0), true) := by
  unfold inInt at hb
  unfold psize
  rcases gdiff_cases 0 base with ⟨_, k⟩ | ⟨k1, _, k⟩ | ⟨k1, _, k⟩
  · omega
  · rw [k, decide_eq_true k1]
  · rw [k, decide_eq_false (by omega)]
theorem gdiff_least : gdiff 0 (-9223372036854775808) = (0, false, false) := by decide
theorem digits_no (w : World) : Calls Tryd.prog 18 #[.int .i64 (-9223372036854775808)] w fun e w' => e = .returned (.tuple #[.slice none 0 0, .bool false]) ∧ Below w.heap.size w w' := by
  have HD := Lib.hid (tdiff_any 0 (-9223372036854775808) w (by unfold inInt; omega) (by unfold inInt; omega))
  rw [gdiff_least] at HD
  go_enter Tryd.func18, Tryd.ntmps18
  go_wp2_with fail
  refine HD.out.mono ?_
  rintro e w1 ⟨rfl, hb1⟩
  go_wp2
  go_ret2
  exact ⟨rfl, hb1⟩
/-- The bytes are laid from the last one on. -/
def DgRel (S n g : Nat) (w : World) (i : Value) (wr : World) : Prop := ∃ k : Nat, k ≤ n ∧ i = .int .i64 (k : Int) ∧ Row wr g 5 ((List.replicate (n - k) (0 : UInt8) ++ be k S).map bv) ∧ Below w.heap.size w wr
theorem dg_step {S n k : Nat} (hk : k < n) : (List.replicate (n - k) (0 : UInt8) ++ be k S).set (n - 1 - k) (UInt8.ofNat (S / 256 ^ k % 256)) = List.replicate (n - (k + 1)) 0 ++ be (k + 1) S := by
  obtain ⟨m, hm⟩ : ∃ m, n - k = m + 1 := ⟨n - k - 1, by omega⟩
  rw [hm, show n - 1 - k = m by omega, show n - (k + 1) = m by omega, List.replicate_succ', List.append_assoc, List.set_append_right _ _ (by simp), List.length_replicate, Nat.sub_self]
  rfl
def RetDg (base : Int) (w : World) (e : Ending) (w' : World) : Prop :=
  ∃ g, e = .returned (.tuple #[.slice (some ⟨g, 0, none⟩) (pn base) (pn base), .bool true]) ∧ w.heap.size ≤ g ∧ Row w' g 5 ((pbased base).map bv) ∧ Below w.heap.size w w'
set_option maxHeartbeats 2000000 in
set_option maxRecDepth 100000 in
theorem digits_yes (base : Int) (w : World) (hb : inInt base) (hne : base ≠ -9223372036854775808) : Calls Tryd.prog 18 #[.int .i64 base] w (RetDg base w) := by
  obtain ⟨_, hlt⟩ := psize_base hb hne
  obtain ⟨n1, n8, hS8⟩ := pn_bd hlt
  have hg := gdiff_base hb hne
  unfold RetDg
  obtain ⟨S, hS⟩ : ∃ S, S = psize base := ⟨_, rfl⟩
  obtain ⟨n, hn⟩ : ∃ n, n = pn base := ⟨_, rfl⟩
  obtain ⟨f, hf⟩ : ∃ f, f = decide (base < 0) := ⟨_, rfl⟩
  rw [← hS, ← hf] at hg
  have HD := Lib.hid (tdiff_any 0 base w (by unfold inInt; omega) hb)
  rw [hg] at HD
  have hpb : pbased base = be n (S + if f = true then 2 ^ (8 * n - 1) else 0) := by
    unfold pbased
    rw [← hS, ← hn]
    congr 2
    rw [hf]
    by_cases h : base < 0
    · rw [if_pos h, if_pos (by simpa using h)]
    · rw [if_neg h, if_neg (by simpa using h)]
  obtain ⟨B, hB⟩ : ∃ B, B = wbits S := ⟨_, rfl⟩
  have HBI := Lib.hid (fun W => bits_any S W (by rw [hS]; show psize base < 18446744073709551616; omega))
  rw [← hB] at HBI
  obtain ⟨Q, hQ⟩ : ∃ Q, Q = B / 8 := ⟨_, rfl⟩
  have hnq : n = Q + 1 := by rw [hn, hQ, hB, hS]; rfl
  have hBq : (B : Int) / 8 = (Q : Int) := by omega
  rw [← hn] at n1 n8 hS8 ⊢
  rw [← hS] at hS8
  have HPB := Lib.hid hpb
  have HS8 := Lib.hid hS8
  have hQn : (Q : Int) + 1 = (n : Int) := by omega
  have hnw : IntKind.i64.wrap (n : Int) = (n : Int) := by rw [IntKind.wrap_i64]; omega
  clear hlt hS hn hf hg hpb hB hQ hnq hS8 hb hne
  go_enter Tryd.func18, Tryd.ntmps18
  go_wp2_with fail
  refine HD.out.mono ?_
  rintro e w1 ⟨rfl, hb1⟩
  have HB1 := Lib.hid hb1
  have hz1 := hb1.size
  clear hb1
  go_wp2_with (first | (go_at_call 48; refine (HBI.out _).mono ?_; rintro e w' ⟨rfl, rfl⟩) | (refine wpList_make elemB rfl _ _ rfl _ _ _ _ n w w.heap.size rfl rfl (by first | exact hQn | rfl) (by first | exact hQn | rfl) (by omega) (by omega) HB1.out hz1 ?_))
  intro w2 hr2 hb2
  have HS := Lib.hid (show DgRel S n w1.heap.size w (.int .i64 0) w2 from ⟨0, Nat.zero_le _, rfl, by rw [Nat.sub_zero]; simpa [be] using hr2, hb2⟩)
  clear hr2 hb2
  go_wp2
  go_loopw [24] (DgRel S n w1.heap.size w) (fun i _ => n - (intOf i).toNat)
  case atStart => exact HS.out
  case round =>
    obtain ⟨k, hk, rfl, hr, hbw⟩ := hrel
    have HBW := Lib.hid hbw
    have hgr := hr.lt
    by_cases hlt : k < n
    · have hlti : (k : Int) < (n : Int) := by omega
      obtain ⟨I, hI⟩ : ∃ I, I = n - 1 - k := ⟨_, rfl⟩
      have hIi : (n : Int) - 1 - (k : Int) = (I : Int) := by omega
      have hn1 : IntKind.i64.wrap ((n : Int) - 1) = (n : Int) - 1 := by rw [IntKind.wrap_i64]; omega
      have hIw : IntKind.i64.wrap (I : Int) = (I : Int) := by rw [IntKind.wrap_i64]; omega
      obtain ⟨T, hT⟩ : ∃ T, T = S / 2 ^ (8 * k) := ⟨_, rfl⟩
      obtain ⟨M, hM⟩ : ∃ M, M = 8 * k := ⟨_, rfl⟩
      have hMi : 8 * (k : Int) = (M : Int) := by omega
      have hMw : IntKind.i64.wrap (M : Int) = (M : Int) := by rw [IntKind.wrap_i64]; omega
      have hsh : (S : Int) / 2 ^ M = (T : Int) := by rw [hT, hM]; simp
      obtain ⟨C, hC⟩ : ∃ C, C = T % 256 := ⟨_, rfl⟩
      have hC256 : C < 256 := by omega
      have hCw : IntKind.u8.wrap (T : Int) = (C : Int) := by rw [IntKind.wrap_u8]; omega
      have hTm : (T : Int) % 256 = (C : Int) := by omega
      have hset := row_set hr I C hC256
      rw [hC, hT, ← p256, hI, dg_step hlt, ← hI, p256, ← hT, ← hC] at hset
      have HSET := Lib.hid hset
      have HB3 := Lib.hid (hbw.setCell (p := ⟨w1.heap.size, I, none⟩) hz1 (.int .u8 (C : Int)))
      have hcu : ∃ u, wr.cell? ⟨w1.heap.size, I, none⟩ = some u := by
        rw [hr.cell]
        exact ⟨_, List.getElem?_eq_getElem (by simp [be_len]; omega)⟩
      obtain ⟨u0, hcu⟩ := hcu
      have hfr := hr.free I
      have hIn : (I : Int) < (n : Int) := by omega
      have hM64 : M < 64 := by omega
      clear hset hr hT hC hI hM hbw
      go_wp2
      go_roundw
      case rel => exact ⟨k + 1, hlt, by go_num, HSET.out, HB3.out⟩
      case measure => simp [intOf]; omega
    · obtain rfl : k = n := by omega
      rw [Nat.sub_self, List.replicate_zero, List.nil_append] at hr
      clear hbw
      cases f with
      | false =>
        have HE : Hid (pbased base = be k S) := Lib.hid (by rw [HPB.out]; rfl)
        have HO := Lib.hid hr
        clear hr
        go_wp2
        go_ret2
        rw [HE.out]
        exact ⟨_, rfl, hz1, HO.out, HBW.out⟩
      | true =>
        have HE : Hid (pbased base = be k (S + 2 ^ (8 * k - 1))) := Lib.hid (by rw [HPB.out]; rfl)
        obtain ⟨b0, hb0⟩ : ∃ b0, b0 = S / 256 ^ (k - 1) % 256 := ⟨_, rfl⟩
        obtain ⟨hb1, hbe⟩ := be_signed n1 HS8.out hb0
        have hc0 : wr.cell? ⟨w1.heap.size, 0, none⟩ = some (.int .u8 (b0 : Int)) := by
          rw [hr.cell, List.getElem?_map, List.getElem?_eq_getElem (by rw [be_len]; omega), be_get, Nat.sub_zero, ← hb0]
          show some (bv (UInt8.ofNat b0)) = _
          rw [← bv_low7 (by omega)]
        have hf0 := hr.free 0
        obtain ⟨C, hC⟩ : ∃ C, C = b0 + 128 := ⟨_, rfl⟩
        have hor : bits .or .u8 (b0 : Int) 128 = (C : Int) := by rw [u8_or128 _ (by omega) (by omega)]; omega
        have hst := row_set hr 0 C (by omega)
        rw [hC, hbe, ← hC] at hst
        have HO := Lib.hid hst
        have HB := Lib.hid (HBW.out.setCell (p := ⟨w1.heap.size, 0, none⟩) hz1 (.int .u8 (C : Int)))
        have hn0 : (0 : Int) < (k : Int) := by omega
        clear hst hr hb0 hbe hC
        go_wp2
        go_ret2
        rw [HE.out]
        exact ⟨_, rfl, hz1, HO.out, HB.out⟩
/-- Without its highest bit. -/
theorem and_below {X M : Nat} (hM : M ≤ 63) (h : X < 2 ^ (M + 1)) : X &&& (18446744073709551615 - 2 ^ M) = X % 2 ^ M := by
  have hp : 2 ^ M < 2 ^ 64 := Nat.pow_lt_pow_right (by omega) (by omega)
  rw [show 18446744073709551615 - 2 ^ M = 2 ^ 64 - (2 ^ M + 1) by omega]
  refine Nat.eq_of_testBit_eq fun i => ?_
  rw [Nat.testBit_and, Nat.testBit_two_pow_sub_succ hp, Nat.testBit_mod_two_pow, Nat.testBit_two_pow]
  by_cases h1 : i < M
  · rw [decide_eq_true (by omega : i < 64), decide_eq_true h1, decide_eq_false (by omega : ¬ M = i)]; simp
  · rw [decide_eq_false h1, Bool.false_and]
    by_cases h2 : M = i
    · subst h2; simp
    · have : X.testBit i = false := Nat.testBit_lt_two_pow (Nat.lt_of_lt_of_le h (Nat.pow_le_pow_right (by omega) (by omega)))
      rw [this, Bool.false_and]
theorem and_top {X M : Nat} (h : X < 2 ^ (M + 1)) : (X &&& 2 ^ M) = if 2 ^ M ≤ X then 2 ^ M else 0 := by
  refine Nat.eq_of_testBit_eq fun i => ?_
  rw [Nat.testBit_and, Nat.testBit_two_pow]
  by_cases h2 : M = i
  · subst h2
    rw [decide_eq_true rfl, Bool.and_true]
    by_cases h3 : 2 ^ M ≤ X
    · rw [if_pos h3, Nat.testBit_two_pow_self, Nat.testBit_eq_decide_div_mod_eq]
      have : X / 2 ^ M = 1 := by
        rw [Nat.pow_succ] at h
        have h4 : X / 2 ^ M < 2 := Nat.div_lt_of_lt_mul (by omega)
        have h5 : 1 ≤ X / 2 ^ M := (Nat.le_div_iff_mul_le (Nat.two_pow_pos M)).2 (by omega)
        omega
      rw [this]; decide
    · rw [if_neg h3, Nat.zero_testBit]
      exact Nat.testBit_lt_two_pow (by omega)
  · rw [decide_eq_false h2, Bool.and_false]
    by_cases h3 : 2 ^ M ≤ X
    · rw [if_pos h3, Nat.testBit_two_pow, decide_eq_false h2]
    · rw [if_neg h3, Nat.zero_testBit]
def NrRel (x : List UInt8) (w : World) (u i : Value) (wr : World) : Prop := ∃ k U : Nat, k ≤ x.length ∧ i = .int .i64 (k : Int) ∧ u = .int .u64 (U : Int) ∧ U = bval (x.take k) ∧ wr = w
theorem pmade_sign {x : List UInt8} {X M : Nat} (h1 : 1 ≤ x.length) (h8 : x.length ≤ 8) (hM : M = 8 * x.length - 1) (hX : X = bval x) : gstep 0 (X % 2 ^ M) (decide (2 ^ M ≤ X)) = (pmade x, true) ∧ inInt (pmade x) ∧ X < 2 ^ (M + 1) := by
  have hlt : X < 2 ^ (M + 1) := by rw [hX, show M + 1 = 8 * x.length by omega, ← p256]; exact bval_lt x
  have h63 : 2 ^ M ≤ 2 ^ 63 := Nat.pow_le_pow_right (by omega) (by omega)
  have hR : X % 2 ^ M < 2 ^ M := Nat.mod_lt _ (Nat.two_pow_pos M)
  have e : pmade x = if 2 ^ M ≤ X then -((X % 2 ^ M : Nat) : Int) else ((X % 2 ^ M : Nat) : Int) := by unfold pmade; rw [← hM, ← hX]
  rw [e]
  generalize X % 2 ^ M = S at *
  generalize 2 ^ M = P at *
  refine ⟨?_, ?_, hlt⟩
  · unfold gstep
    rw [if_neg (by omega)]
    by_cases h : P ≤ X
    · rw [if_pos (decide_eq_true h), if_neg (by omega), if_pos h]; try simp
    · rw [if_neg (by simpa using h), if_neg (by omega), if_neg h]; try simp
  · unfold inInt
    split <;> omega
set_option maxHeartbeats 2000000 in
set_option maxRecDepth 100000 in
theorem number_any (x : List UInt8) (v : Value) (w : World) (hv : IsB x v w) (h1 : 1 ≤ x.length) (h8 : x.length ≤ 8) : Calls Tryd.prog 39 #[v] w fun e w' => e = .returned (.int .i64 (pmade x)) ∧ Below w.heap.size w w' := by
  rw [isB_iff] at hv
  obtain ⟨A, n, c, rfl⟩ := hv.shape
  have HN := Lib.hid hv.parts.1
  have HV := Lib.hid hv
  have hn1 : 1 ≤ n := by have := HN.out; omega
  have hn8 : n ≤ 8 := by have := HN.out; omega
  obtain ⟨M, hM⟩ : ∃ M, M = 8 * n - 1 := ⟨_, rfl⟩
  obtain ⟨hst, hin, hX⟩ := pmade_sign (M := M) (X := bval x) h1 h8 (by rw [HN.out]; exact hM) rfl
  have HST := Lib.hid hst
  have HX := Lib.hid hX
  have hMn : 8 * (n : Int) - 1 = (M : Int) := by omega
  have hw8 : IntKind.i64.wrap (8 * (n : Int)) = 8 * (n : Int) := by rw [IntKind.wrap_i64]; omega
  have hMw : IntKind.i64.wrap (M : Int) = (M : Int) := by rw [IntKind.wrap_i64]; omega
  have hM64 : M ≤ 63 := by omega
  have HS := Lib.hid (show NrRel x w (.int .u64 0) (.int .i64 0) w from ⟨0, 0, Nat.zero_le _, rfl, rfl, by simp [bval], rfl⟩)
  clear hv h1 h8 hst hin hX hM
  go_enter Tryd.func39, Tryd.ntmps39
  go_wp2
  go_loopw [3, 11] (NrRel x w) (fun _ i _ => n - (intOf i).toNat)
  case atStart => exact HS.out
  case round =>
    obtain ⟨k, U, hk, rfl, rfl, hU, rfl⟩ := hrel
    have HU := Lib.hid hU
    have hkn : k ≤ n := by have := HN.out; omega
    clear hU hk
    by_cases hlt : k < n
    · have hkl : k < x.length := by have := HN.out; omega
      have hlti : (k : Int) < (n : Int) := by omega
      obtain ⟨ad, rfl, had, hcell⟩ := HV.out.at hkl
      obtain ⟨d, hd⟩ : ∃ d, d = x[k].toNat := ⟨_, rfl⟩
      have hcx : wr.cell? (ad.add k) = some (.int .u8 (d : Int)) := by rw [hcell, hd]; rfl
      have hd8 : d < 256 := by rw [hd]; exact UInt8.toNat_lt _
      have hU7 : U < 72057594037927936 := by
        rw [HU.out]
        refine Nat.lt_of_lt_of_le (bval_lt _) ?_
        have : 256 ^ (x.take k).length ≤ 256 ^ 7 := Nat.pow_le_pow_right (by omega) (by rw [List.length_take]; omega)
        omega
      obtain ⟨V, hV⟩ : ∃ V, V = U * 256 := ⟨_, rfl⟩
      have hor : bits .or .u64 (V : Int) (d : Int) = ((V + d : Nat) : Int) := or_word 8 V d (by omega) hd8 (by omega)
      have hshl : IntKind.u64.wrap ((U : Int) * 256) = (V : Int) := by rw [IntKind.wrap_u64]; omega
      obtain ⟨Y, hY⟩ : ∃ Y, Y = V + d := ⟨_, rfl⟩
      rw [← hY] at hor
      have hdw : IntKind.u64.wrap (d : Int) = (d : Int) := by rw [IntKind.wrap_u64]; omega
      have HN1 := Lib.hid (show Y = bval (x.take (k + 1)) by rw [bval_snoc_at x k hkl, ← HU.out, ← hd]; omega)
      clear hcell hd hY hU7 hV
      go_wp2
      go_roundw
      case rel => exact ⟨k + 1, Y, hkl, by go_num, rfl, HN1.out, rfl⟩
      case measure => simp [intOf]; omega
    · obtain rfl : k = n := by omega
      have hXU : U = bval x := by have := HU.out; rwa [List.take_of_length_le (by have := HN.out; omega)] at this
      rw [← hXU] at HST HX
      obtain ⟨P, hP⟩ : ∃ P, P = 2 ^ M := ⟨_, rfl⟩
      obtain ⟨R, hR⟩ : ∃ R, R = U % 2 ^ M := ⟨_, rfl⟩
      have hPb : P ≤ 9223372036854775808 := by
        rw [hP]
        exact Nat.pow_le_pow_right (n := 2) (i := M) (j := 63) (by omega) hM64
      have hU64 : U < 18446744073709551616 := by
        have h := HX.out
        rw [Nat.pow_succ, ← hP] at h
        omega
      have hRP : R < P := by rw [hR, hP]; exact Nat.mod_lt _ (Nat.two_pow_pos M)
      have hpi : (2 : Int) ^ M = (P : Int) := by rw [hP]; simp
      have hpw : IntKind.u64.wrap (P : Int) = (P : Int) := by rw [IntKind.wrap_u64]; omega
      have hand : bits .andNot .u64 (U : Int) (P : Int) = (R : Int) := by
        rw [u64_andNot_nat _ _ hU64 (by omega), hP, and_below hM64 HX.out, hR]
      obtain ⟨Z, hZ⟩ : ∃ Z, Z = (U &&& P) := ⟨_, rfl⟩
      have hand2 : bits .and .u64 (U : Int) (P : Int) = (Z : Int) := by
        rw [u64_and_nat _ _ hU64 (by omega), hZ]
      have hZt : ((Z : Int) != 0) = decide (2 ^ M ≤ U) := by
        rw [hZ, hP, and_top HX.out, ← hP]
        by_cases h : P ≤ U
        · rw [if_pos h, decide_eq_true h]
          have : 0 < P := by omega
          simp; omega
        · rw [if_neg h, decide_eq_false h]; rfl
      obtain ⟨f, hf⟩ : ∃ f, f = decide (2 ^ M ≤ U) := ⟨_, rfl⟩
      rw [← hf] at hZt HST
      rw [← hR] at HST
      have HSP := Lib.hid (tstep_any 0 (R : Int) f wr (by unfold inInt; omega) (by omega) (by omega))
      rw [Int.toNat_natCast, HST.out] at HSP
      clear hXU hP hR hPb hU64 hRP hZ hf
      go_wp2_with (go_at_call 64; refine HSP.out.mono ?_; rintro e w1 ⟨rfl, hb1⟩)
      go_ret
      exact ⟨rfl, hb1⟩
end Go.Proofs.YtdcgkjcefbceeaaDoor

/- patched's own contracts: sizesFrom, numbersFrom. -/



namespace Go.Proofs.YtdcgkjcefbceeaaDoor

open Go.RowKit

/-- Numbers in a row of the call's own, or none. -/
def RetSz (o : Option (List Nat)) (w : World) (e : Ending) (w' : World) : Prop :=
  match o with
  | none => e = .returned (.tuple #[.slice none 0 0, .bool false]) ∧ Below w.heap.size w w'
  | some us => ∃ g, e = .returned (.tuple #[.slice (some ⟨g, 0, none⟩) us.length us.length, .bool true]) ∧ w.heap.size ≤ g ∧ Row w' g 62 (us.map uv) ∧ Below w.heap.size w w'
def RetNb (o : Option (List Int)) (w : World) (e : Ending) (w' : World) : Prop :=
  match o with
  | none => e = .returned (.tuple #[.slice none 0 0, .bool false]) ∧ Below w.heap.size w w'
  | some xs => ∃ v, e = .returned (.tuple #[v, .bool true]) ∧ IsV iv xs v w' ∧ Below w.heap.size w w'
set_option maxHeartbeats 2000000 in
set_option maxRecDepth 100000 in
theorem sizes_any (base : Int) (l : List Int) (v : Value) (w : World) (hv : IsV iv l v w) (hbi : inInt base) (hl : ∀ x ∈ l, inInt x) (hb : l.length ≤ 1000000) :
    Calls Tryd.prog 19 #[.int .i64 base, v] w (RetSz (omap (pone base) l) w) := by
  obtain ⟨A, n, c, rfl⟩ := hv.shape
  have HN := Lib.hid hv.parts.1
  have HV := Lib.hid hv
  have HL := Lib.hid hl
  have hn6 : n ≤ 1000000 := by have := HN.out; omega
  clear hv hl hb
  go_enter Tryd.func19, Tryd.ntmps19
  go_wp2_with (refine wpList_make elemU rfl _ _ rfl _ _ _ _ n w w.heap.size rfl rfl rfl rfl (by omega) (by omega) (Below.refl _ _) (Nat.le_refl _) ?_)
  intro w1 hr1 hb1
  have HS := Lib.hid (show FillRel (pone base) uv (uv 0) 62 l w (.int .i64 0) w1 from ⟨0, [], Nat.zero_le _, rfl, rfl, by rw [Nat.sub_zero, HN.out]; simpa [uv] using hr1, hb1⟩)
  clear hr1 hb1
  go_wp2
  go_loopw [17] (FillRel (pone base) uv (uv 0) 62 l w) (fun i _ => n - (intOf i).toNat)
  case atStart => exact HS.out
  case round =>
    obtain ⟨k, acc, hk, rfl, hacc, hr, hbw⟩ := hrel
    have hal : acc.length = k := by rw [omap_len hacc, List.length_take]; omega
    rw [HN.out] at hr
    have HACC := Lib.hid hacc
    have HAL := Lib.hid hal
    have HB := Lib.hid hbw
    have HR := Lib.hid hr
    have hk' : k ≤ n := by have := HN.out; omega
    clear hacc hal hk hr
    by_cases hlt : k < n
    · have hkl : k < l.length := by have := HN.out; omega
      have hlti : (k : Int) < (n : Int) := by omega
      obtain ⟨ad, rfl, _, hcell⟩ := (HV.out.below hbw).at hkl
      obtain ⟨x, hx⟩ : ∃ x, x = l[k] := ⟨_, rfl⟩
      have hcx : wr.cell? (ad.add k) = some (.int .i64 x) := by rw [hcell, hx]; rfl
      have hxb : inInt x := by rw [hx]; exact HL.out _ (List.getElem_mem hkl)
      have HX := Lib.hid hx
      have HD := Lib.hid (tdiff_any base x wr hbi hxb)
      obtain ⟨u, d, o, hg⟩ : ∃ u d o, gdiff base x = (u, d, o) := ⟨_, _, _, rfl⟩
      rw [hg] at HD
      have HP := Lib.hid (show pone base x = if o = true then some u else none by unfold pone; rw [hg])
      clear hcell hx hxb hg hbw
      go_wp2_with fail
      refine HD.out.mono ?_
      rintro e w2 ⟨rfl, hb2⟩
      have HB2 := Lib.hid (below_then HB.out hb2)
      cases o with
      | false =>
        have hE := Lib.hid (show omap (pone base) l = none from omap_none (x := x) (by rw [HX.out]; exact List.getElem_mem hkl) (by rw [HP.out]; rfl))
        clear hb2
        go_wp2
        go_ret2
        rw [hE.out]
        exact ⟨rfl, HB2.out⟩
      | true =>
        have hnext := Lib.hid (show omap (pone base) (l.take (k + 1)) = some (acc ++ [u]) from omap_take hkl HACC.out (by rw [← HX.out, HP.out]; rfl))
        have hr2 := HR.out.below hb2 HR.out.lt
        have hfx := hr2.free k
        have hcu : ∃ y, w2.cell? ⟨w.heap.size, k, none⟩ = some y := by
          rw [hr2.cell]
          exact ⟨_, List.getElem?_eq_getElem (by rw [List.length_append, List.length_map, List.length_replicate]; have := HAL.out; omega)⟩
        obtain ⟨u0, hcu⟩ := hcu
        have hset := hr2.set_ k (uv u)
        rw [fill_step hlt HAL.out] at hset
        have HSET := Lib.hid hset
        have HB3 := Lib.hid (HB2.out.setCell (p := ⟨w.heap.size, k, none⟩) (Nat.le_refl _) (uv u))
        clear hset hr2 hb2
        go_wp2
        go_roundw
        case rel => exact ⟨k + 1, _, hkl, by go_num, hnext.out, by rw [HN.out]; exact HSET.out, HB3.out⟩
        case measure => simp [intOf]; omega
    · obtain rfl : k = n := by omega
      have hlti : ¬ (k : Int) < (k : Int) := by omega
      have hE : Hid (omap (pone base) l = some acc) := Lib.hid (by
        have h1 := HACC.out
        rwa [List.take_of_length_le (by have := HN.out; omega)] at h1)
      have hr := HR.out
      rw [Nat.sub_self, List.replicate_zero, List.append_nil] at hr
      have HRR := Lib.hid hr
      clear hr hbw
      go_wp2
      go_ret2
      rw [hE.out]
      exact ⟨w.heap.size, by rw [HAL.out]; rfl, Nat.le_refl _, HRR.out, HB.out⟩
theorem gnext_is {s f : Bool} {x : Int} {u : Nat} {z : Int} {ok : Bool} (h : gstep x u f = (z, ok)) : gnext s f x u = if ok = true ∧ (s = true ∨ 0 ≤ z) then some z else none := by
  unfold gnext
  rw [h]
set_option maxHeartbeats 4000000 in
set_option maxRecDepth 100000 in
theorem numbers_from (base : Int) (us : List Nat) (v : Value) (s : Bool) (w : World) (hv : IsV uv us v w) (hbi : inInt base) (hu : ∀ u ∈ us, u < 2 ^ 64) (hb : us.length ≤ 1000000) :
    Calls Tryd.prog 42 #[.int .i64 base, v, .bool s] w (RetNb (omap (gnext s false base) us) w) := by
  obtain ⟨A, n, c, rfl⟩ := hv.shape
  have HN := Lib.hid hv.parts.1
  have HV := Lib.hid hv
  have HL := Lib.hid hu
  have hn6 : n ≤ 1000000 := by have := HN.out; omega
  clear hv hu hb
  go_enter Tryd.func42, Tryd.ntmps42
  go_wp2_with (refine wpList_make elemI rfl _ _ rfl _ _ _ _ n w w.heap.size rfl rfl rfl rfl (by omega) (by omega) (Below.refl _ _) (Nat.le_refl _) ?_)
  intro w1 hr1 hb1
  have HS := Lib.hid (show FillRel (gnext s false base) iv (iv 0) 3 us w (.int .i64 0) w1 from ⟨0, [], Nat.zero_le _, rfl, rfl, by rw [Nat.sub_zero, HN.out]; simpa [iv] using hr1, hb1⟩)
  clear hr1 hb1
  go_wp2
  go_loopw [18] (FillRel (gnext s false base) iv (iv 0) 3 us w) (fun i _ => n - (intOf i).toNat)
  case atStart => exact HS.out
  case round =>
    obtain ⟨k, acc, hk, rfl, hacc, hr, hbw⟩ := hrel
    have hal : acc.length = k := by rw [omap_len hacc, List.length_take]; omega
    rw [HN.out] at hr
    have HACC := Lib.hid hacc
    have HAL := Lib.hid hal
    have HB := Lib.hid hbw
    have HR := Lib.hid hr
    have hk' : k ≤ n := by have := HN.out; omega
    clear hacc hal hk hr
    by_cases hlt : k < n
    · have hkl : k < us.length := by have := HN.out; omega
      have hlti : (k : Int) < (n : Int) := by omega
      obtain ⟨ad, rfl, _, hcell⟩ := (HV.out.below hbw).at hkl
      obtain ⟨x, hx⟩ : ∃ x, x = us[k] := ⟨_, rfl⟩
      have hcx : wr.cell? (ad.add k) = some (.int .u64 (x : Int)) := by rw [hcell, hx]; rfl
      have hxb : x < 18446744073709551616 := by rw [hx]; exact HL.out _ (List.getElem_mem hkl)
      have HX := Lib.hid hx
      have HD := Lib.hid (tstep_any base (x : Int) false wr hbi (by omega) (by omega))
      rw [Int.toNat_natCast] at HD
      obtain ⟨z, o, hg⟩ : ∃ z o, gstep base x false = (z, o) := ⟨_, _, rfl⟩
      rw [hg] at HD
      have HP := Lib.hid (gnext_is (s := s) hg)
      clear hcell hx hxb hg hbw
      go_wp2_with fail
      refine HD.out.mono ?_
      rintro e w2 ⟨rfl, hb2⟩
      have HB2 := Lib.hid (below_then HB.out hb2)
      by_cases hok : o = true ∧ (s = true ∨ 0 ≤ z)
      · have hnext := Lib.hid (show omap (gnext s false base) (us.take (k + 1)) = some (acc ++ [z]) from omap_take hkl HACC.out (by rw [← HX.out, HP.out, if_pos hok]))
        have hr2 := HR.out.below hb2 HR.out.lt
        have hfx := hr2.free k
        have hcu : ∃ y, w2.cell? ⟨w.heap.size, k, none⟩ = some y := by
          rw [hr2.cell]
          exact ⟨_, List.getElem?_eq_getElem (by rw [List.length_append, List.length_map, List.length_replicate]; have := HAL.out; omega)⟩
        obtain ⟨u0, hcu⟩ := hcu
        have hset := hr2.set_ k (iv z)
        rw [fill_step hlt HAL.out] at hset
        have HSET := Lib.hid hset
        have HB3 := Lib.hid (HB2.out.setCell (p := ⟨w.heap.size, k, none⟩) (Nat.le_refl _) (iv z))
        obtain ⟨rfl, hsz⟩ := hok
        clear hset hr2 hb2
        cases s with
        | true =>
          obtain ⟨d, hd⟩ : ∃ d, decide (z < 0) = d := ⟨_, rfl⟩
          cases d
          all_goals
            go_wp2
            go_roundw
            case rel => exact ⟨k + 1, _, hkl, by go_num, hnext.out, by rw [HN.out]; exact HSET.out, HB3.out⟩
            case measure => simp [intOf]; omega
        | false =>
          have d3 : decide (z < 0) = false := decide_eq_false (by rcases hsz with h | h <;> first | cases h | omega)
          clear hsz
          go_wp2
          go_roundw
          case rel => exact ⟨k + 1, _, hkl, by go_num, hnext.out, by rw [HN.out]; exact HSET.out, HB3.out⟩
          case measure => simp [intOf]; omega
      · have hE := Lib.hid (show omap (gnext s false base) us = none from omap_none (x := x) (by rw [HX.out]; exact List.getElem_mem hkl) (by rw [HP.out, if_neg hok]))
        clear hb2
        cases o with
        | false =>
          clear hok
          go_wp2
          go_ret2
          rw [hE.out]
          exact ⟨rfl, HB2.out⟩
        | true =>
          obtain ⟨rfl, d3⟩ : s = false ∧ decide (z < 0) = true := by
            cases s
            · exact ⟨rfl, decide_eq_true (by refine Int.not_le.1 fun h => hok ⟨rfl, .inr h⟩)⟩
            · exact absurd ⟨rfl, .inl rfl⟩ hok
          clear hok
          go_wp2
          go_ret2
          rw [hE.out]
          exact ⟨rfl, HB2.out⟩
    · obtain rfl : k = n := by omega
      have hlti : ¬ (k : Int) < (k : Int) := by omega
      have hE : Hid (omap (gnext s false base) us = some acc) := Lib.hid (by
        have h1 := HACC.out
        rwa [List.take_of_length_le (by have := HN.out; omega)] at h1)
      have hr := HR.out
      rw [Nat.sub_self, List.replicate_zero, List.append_nil] at hr
      have HRR := Lib.hid (isV_row hr HAL.out (by omega))
      clear hr hbw
      go_wp2
      go_ret2
      rw [hE.out]
      exact ⟨_, rfl, HRR.out, HB.out⟩
end Go.Proofs.YtdcgkjcefbceeaaDoor

/- patched's own contracts: cut, with its closure add. -/



namespace Go.Proofs.YtdcgkjcefbceeaaDoor

open Go.RowKit

/-- Two rows of numbers of the call's own, that grow turn about. -/
structure Two (w : World) (B : Nat) (u v : Value) (n m : Nat) (xs ys : List Value) : Prop where
  h1 : w.ownsRow B 62 1 u n xs
  h2 : w.ownsRow B 62 1 v m ys
  d : ∀ a, u.ownBlock = some a → v.ownBlock = some a → False
theorem Two.turn {w : World} {B n m : Nat} {u v : Value} {xs ys : List Value} (h : Two w B u v n m xs ys) : Two w B v u m n ys xs := ⟨h.h2, h.h1, fun a p q => h.d a q p⟩
theorem Two.below {w w' : World} {B n m : Nat} {u v : Value} {xs ys : List Value} (h : Two w B u v n m xs ys) (hb : Below w.heap.size w w') : Two w' B u v n m xs ys := ⟨own_below h.h1 hb, own_below h.h2 hb, h.d⟩
theorem Two.past {w w' : World} {B n m g : Nat} {u v : Value} {xs ys : List Value} (h : Two w B u v n m xs ys) (hg : w.grownBy w' (some g)) (hlt : g < B) : Two w' B u v n m xs ys := ⟨own_past h.h1 hg hlt, own_past h.h2 hg hlt, h.d⟩
theorem own_lt {w : World} {B n a : Nat} {e : TypeId} {v : Value} {xs : List Value} (h : w.ownsRow B e 1 v n xs) (ha : v.ownBlock = some a) : a < w.heap.size := by
  rcases h.2 with ⟨h1, _⟩ | ⟨g, c, cur, h1, _, h3, _⟩
  · rw [h1] at ha; cases ha
  · rw [h1] at ha; injection ha with ha; subst ha; exact (Array.getElem?_eq_some_iff.1 h3).1
theorem Two.push {w w' : World} {B n n' m k : Nat} {u v u' : Value} {xs xs' ys : List Value} (h : Two w B u v n m xs ys) (ho : w'.ownsRow B 62 1 u' n' xs') (hg : w.grownBy w' u.ownBlock) (hq : u'.ownBlock = u.ownBlock ∨ u'.ownBlock = some k) (hk : w.heap.size ≤ k) : Two w' B u' v n' m xs' ys := by
  refine ⟨ho, h.h2.kept hg ?_, ?_⟩
  · cases hv : v.ownBlock with
    | none => exact .inl rfl
    | some a => exact .inr fun he => h.d a he.symm hv
  · intro a h1 h2
    rcases hq with hq | hq
    · exact h.d a (hq ▸ h1) h2
    · rw [hq] at h1
      injection h1 with h1
      have := own_lt h.h2 h2
      omega
theorem Two.nil (w : World) (B : Nat) : Two w B (.slice none 0 0) (.slice none 0 0) 0 0 [] [] := ⟨World.ownsRow_nil _ _ _ _, World.ownsRow_nil _ _ _ _, fun a h => by cases h⟩
def AddPost (m B b a : Nat) (n A gap patch : Nat) (xs ys : List Nat) (w : World) (e : Ending) (w' : World) : Prop :=
  ∃ u v, e = .returned (.tuple #[]) ∧ Row w' b 45 [u, v] ∧ Row w' a 3 [.int .i64 ((A + gap : Nat) : Int)] ∧ Two w' B u v (n + 1) (n + 1) ((xs ++ [gap]).map uv) ((ys ++ [patch]).map uv) ∧ Below m w w'
set_option maxHeartbeats 2000000 in
set_option maxRecDepth 100000 in
theorem add_any (m B b a n A gap patch : Nat) (u v : Value) (xs ys : List Nat) (w : World) (hrb : Row w b 45 [u, v]) (hra : Row w a 3 [.int .i64 (A : Int)]) (hmb : m ≤ b) (hma : m ≤ a) (hbB : b < B) (haB : a < B) (hab : a ≠ b) (hB : B ≤ w.heap.size)
    (h2 : Two w B u v n n (xs.map uv) (ys.map uv)) (hn : n ≤ 1000000) (hA : A ≤ 1000000) (hgap : gap ≤ 1000000) :
    Calls Tryd.prog 49 #[.int .i64 (gap : Int), .int .u64 (patch : Int), .pointer (some ⟨b, 0, none⟩), .pointer (some ⟨a, 0, none⟩)] w (AddPost m B b a n A gap patch xs ys w) := by
  have hgw : IntKind.u64.wrap (gap : Int) = (gap : Int) := by rw [IntKind.wrap_u64]; omega
  have hc0 : w.cell? ⟨b, 0, none⟩ = some u := hrb.cell 0
  have H2 := Lib.hid h2
  have HRB := Lib.hid hrb
  have HRA := Lib.hid hra
  clear hrb hra h2
  go_enter Tryd.func49, Tryd.ntmps49
  go_wp2_with (at_builtin; refine wpList_push elemU rfl _ _ rfl B u n (xs.map uv) (uv gap) w w rfl rfl rfl rfl H2.out.h1 (Below.refl _ _) hB (by omega) (by omega) ?_)
  intro u1 w1 ho1 hb1 hg1 hq1
  obtain ⟨A1, c1, hu1, _⟩ := own_shape ho1
  subst hu1
  have hz1 := hb1.size
  have HT1 := Lib.hid (H2.out.push ho1 hg1 hq1 (Nat.le_succ _))
  have hrb1 := HRB.out.below hb1 hbB
  have hra1 := HRA.out.below hb1 haB
  have hcb : w1.cell? ⟨b, 0, none⟩ = some u := hrb1.cell 0
  have hfb := hrb1.free 0
  have hset := hrb1.set_ 0 (.slice A1 (n + 1) c1)
  rw [show [u, v].set 0 (.slice A1 (n + 1) c1) = [.slice A1 (n + 1) c1, v] from rfl] at hset
  have HRB2 := Lib.hid hset
  have HRA2 := Lib.hid (hra1.far (p := ⟨b, 0, none⟩) hab (.slice A1 (n + 1) c1))
  have HS2 := Lib.hid (HT1.out.past (grown_set w1 b 0 (.slice A1 (n + 1) c1)) hbB).turn
  have hc1 : (w1.setCell ⟨b, 0, none⟩ (.slice A1 (n + 1) c1)).cell? ⟨b, 1, none⟩ = some v := hset.cell 1
  have HZS := Lib.hid (show Value.slice (some ⟨w1.heap.size, 0, none⟩) 1 1 = .slice (some ⟨(w1.setCell ⟨b, 0, none⟩ (.slice A1 (n + 1) c1)).heap.size, 0, none⟩) 1 1 by simp)
  have HBM := Lib.hid ((hb1.mono (Nat.le_of_lt (Nat.lt_of_le_of_lt hmb hbB))).setCell (p := ⟨b, 0, none⟩) hmb (.slice A1 (n + 1) c1))
  clear ho1 hg1 hq1 hrb1 hra1 hset hb1 hc0
  go_wp2_with (at_builtin; go_must (refine wpList_push elemU rfl _ _ rfl B v n (ys.map uv) (uv patch) (w1.setCell ⟨b, 0, none⟩ (.slice A1 (n + 1) c1)) (w1.setCell ⟨b, 0, none⟩ (.slice A1 (n + 1) c1)) rfl HZS.out rfl rfl HS2.out.h1 (Below.refl _ _) (Nat.le_trans hB (by simpa using hz1)) (by omega) (by omega) ?_))
  intro v2 w2 ho2 hb2 hg2 hq2
  obtain ⟨A2, c2, hv2, _⟩ := own_shape ho2
  subst hv2
  have HT2 := Lib.hid (HS2.out.push ho2 hg2 hq2 (by simp)).turn
  have hrb2 := HRB2.out.below hb2 hbB
  have hra2 := HRA2.out.below hb2 haB
  have hcb2 : w2.cell? ⟨b, 1, none⟩ = some v := hrb2.cell 1
  have hfb2 := hrb2.free 1
  have hset2 := hrb2.set_ 1 (.slice A2 (n + 1) c2)
  rw [show [Value.slice A1 (n + 1) c1, v].set 1 (.slice A2 (n + 1) c2) = [Value.slice A1 (n + 1) c1, .slice A2 (n + 1) c2] from rfl] at hset2
  have hra3 := hra2.far (p := ⟨b, 1, none⟩) hab (.slice A2 (n + 1) c2)
  have hca : (w2.setCell ⟨b, 1, none⟩ (.slice A2 (n + 1) c2)).cell? ⟨a, 0, none⟩ = some (.int .i64 (A : Int)) := hra3.cell 0
  have hfa := hra3.free 0
  obtain ⟨C, hC⟩ : ∃ C, C = A + gap := ⟨_, rfl⟩
  have hCi : (A : Int) + (gap : Int) = (C : Int) := by omega
  have hCw : IntKind.i64.wrap (C : Int) = (C : Int) := by rw [IntKind.wrap_i64]; omega
  have hset3 := hra3.set_ 0 (.int .i64 (C : Int))
  rw [show [Value.int .i64 (A : Int)].set 0 (.int .i64 (C : Int)) = [.int .i64 (C : Int)] from rfl] at hset3
  have HRA3 := Lib.hid hset3
  have HRB3 := Lib.hid (hset2.far (p := ⟨a, 0, none⟩) (Ne.symm hab) (.int .i64 (C : Int)))
  have HT3 := Lib.hid ((HT2.out.past (grown_set w2 b 1 (.slice A2 (n + 1) c2)) hbB).past (grown_set (w2.setCell ⟨b, 1, none⟩ (.slice A2 (n + 1) c2)) a 0 (.int .i64 (C : Int))) haB)
  have HBF := Lib.hid ((((HBM.out.trans (hb2.mono (Nat.le_of_lt (Nat.lt_of_le_of_lt hmb hbB)))).setCell (p := ⟨b, 1, none⟩) hmb (.slice A2 (n + 1) c2))).setCell (p := ⟨a, 0, none⟩) hma (.int .i64 (C : Int)))
  have HC := Lib.hid hC
  clear ho2 hg2 hq2 hrb2 hra2 hset2 hra3 hset3 hb2 hC hcb hfb hc1
  go_wp2
  go_end0
  refine ⟨(.slice A1 (n + 1) c1), (.slice A2 (n + 1) c2), rfl, HRB3.out, by rw [← HC.out]; exact HRA3.out, ?_, HBF.out⟩
  rw [List.map_append, List.map_append]
  exact HT3.out
theorem ret_struct {P : Program} {f : Func} {p : Tmp} {t t' : TypeId} {K : Ending → World → Prop} {a : Act} {w : World} {g : Nat} {cs : List Value} {d : TypeDesc} (hf : f.results = #[.cell p t]) (hp : a.tmps.getD p undef = .pointer (some ⟨g, 0, none⟩)) (hr : Row w g t' cs)
    (hu : P.underlying t = some d) (hdd : (match d with | .struct _ | .array _ _ => true | _ => false) = true) (hi : (P.info? t).map (·.size) = some cs.length) (hd : a.defers = []) (hK : K (.returned (.agg cs.toArray)) w) : bodyPost P f K .ret a w :=
  bodyPost_ret (v := .agg cs.toArray) (results_cell_row hf a.tmps w g t' cs.toArray (0, 0) _ hp hr hu hdd (by rw [hi]; simp)) hd hK
def prow (us : List Nat) (w k : Nat) : List Nat := plow (us.take k) w ++ us.drop k
theorem prow_len (us : List Nat) (w k : Nat) : (prow us w k).length = us.length := by
  unfold prow plow
  rw [List.length_append, List.length_map, ← List.length_append, List.take_append_drop]
theorem prow_at {us : List Nat} {w k : Nat} (hk : k < us.length) : (prow us w k)[k]? = some us[k] := by
  unfold prow plow
  rw [List.getElem?_append_right (by rw [List.length_map, List.length_take]; omega), List.length_map, List.length_take, show k - min k us.length = 0 by omega, List.getElem?_drop, Nat.add_zero, List.getElem?_eq_getElem hk]
theorem prow_set {us : List Nat} {w k : Nat} (hk : k < us.length) : (prow us w k).set k (us[k] % 2 ^ w) = prow us w (k + 1) := by
  unfold prow plow
  have hl : ((us.take k).map (· % 2 ^ w)).length = k := by rw [List.length_map, List.length_take]; omega
  rw [List.set_append_right _ _ (by omega), hl, Nat.sub_self, List.drop_eq_getElem_cons hk, List.set_cons_zero, List.take_succ_eq_append_getElem hk, List.map_append, List.append_assoc]
  rfl
theorem prow_same {us : List Nat} {w k : Nat} (hk : k < us.length) (h : us[k] / 2 ^ w = 0) : prow us w (k + 1) = prow us w k := by
  rw [← prow_set hk]
  have h1 : us[k] % 2 ^ w = us[k] := by have := Nat.div_add_mod us[k] (2 ^ w); rw [h] at this; omega
  rw [h1]
  refine List.ext_getElem? fun i => ?_
  rw [List.getElem?_set]
  split
  · rename_i e
    subst e
    rw [prow_at hk, if_pos (by rw [prow_len]; exact hk)]
  · rfl
theorem prow_zero (us : List Nat) (w : Nat) : prow us w 0 = us := by simp [prow, plow]
theorem prow_all (us : List Nat) (w : Nat) : prow us w us.length = plow us w := by simp [prow]
/-- Where the next gap counts from: what stands in a box. -/
def boxNat (a : Nat) (W : World) : Nat := match W.cell? ⟨a, 0, none⟩ with | some v => (intOf v).toNat | none => 0
theorem boxNat_row {a A : Nat} {W : World} {t : TypeId} (h : Row W a t [.int .i64 (A : Int)]) : boxNat a W = A := by
  unfold boxNat
  have h1 : W.cell? ⟨a, 0, none⟩ = some (.int .i64 (A : Int)) := h.cell 0
  rw [h1]
  simp [intOf]
def pairCells (ps : List (Nat × Nat)) : List Nat × List Nat := (ps.map (·.1), ps.map (·.2))
/-- What is known in a round: the numbers' row at g, what is answered at r, the pairs at r + 1, the last place at r + 2. -/
structure Cutting (row : List Nat) (ps : List (Nat × Nat)) (last g r : Nat) (w wr : World) : Prop where
  ex : ∃ u v, Row wr (r + 1) 45 [u, v] ∧ Two wr (r + 3) u v ps.length ps.length ((ps.map (·.1)).map uv) ((ps.map (·.2)).map uv)
  box : Row wr (r + 2) 3 [.int .i64 (last : Int)]
  res : Row wr r 45 [.slice none 0 0, .slice none 0 0]
  row : Row wr g 62 (row.map uv)
  size : r + 3 ≤ wr.heap.size
  below : Below g w wr
theorem Cutting.add {row : List Nat} {ps : List (Nat × Nat)} {last g r : Nat} {w wr : World} (h : Cutting row ps last g r w wr) (hgr : g < r) (gap patch : Nat) (hn : ps.length ≤ 1000000) (hA : last ≤ 1000000) (hgap : gap ≤ 1000000) :
    Calls Tryd.prog 49 #[.int .i64 (gap : Int), .int .u64 (patch : Int), .pointer (some ⟨r + 1, 0, none⟩), .pointer (some ⟨r + 2, 0, none⟩)] wr fun e w' => e = .returned (.tuple #[]) ∧ Cutting row (ps ++ [(gap, patch)]) (last + gap) g r w w' := by
  obtain ⟨u, v, hrb, h2⟩ := h.ex
  refine (add_any (r + 1) (r + 3) (r + 1) (r + 2) ps.length last gap patch u v _ _ wr hrb h.box (Nat.le_refl _) (by omega) (by omega) (by omega) (by omega) h.size h2 hn hA hgap).mono ?_
  rintro e w' ⟨u', v', rfl, h3, h4, h5, h6⟩
  refine ⟨rfl, ⟨u', v', h3, ?_⟩, h4, h.res.below h6 (by omega), h.row.below h6 (by omega), Nat.le_trans h.size h6.size, h.below.trans (h6.mono (by omega))⟩
  rw [List.length_append, List.length_singleton]
  have h7 := h5
  rw [show ps.map (·.1) ++ [gap] = (ps ++ [(gap, patch)]).map (·.1) by simp, show ps.map (·.2) ++ [patch] = (ps ++ [(gap, patch)]).map (·.2) by simp] at h7
  exact h7
theorem Cutting.set {row : List Nat} {ps : List (Nat × Nat)} {last g r : Nat} {w wr : World} (h : Cutting row ps last g r w wr) (hgr : g < r) (k T : Nat) : Cutting (row.set k T) ps last g r w (wr.setCell ⟨g, k, none⟩ (.int .u64 (T : Int))) := by
  obtain ⟨u, v, hrb, h2⟩ := h.ex
  refine ⟨⟨u, v, hrb.far (p := ⟨g, k, none⟩) (by dsimp only; omega) _, h2.past (grown_set _ _ _ _) (by omega)⟩, h.box.far (p := ⟨g, k, none⟩) (by dsimp only; omega) _, h.res.far (p := ⟨g, k, none⟩) (by dsimp only; omega) _, ?_, by simpa using h.size, h.below.setCell (p := ⟨g, k, none⟩) (Nat.le_refl _) _⟩
  have h3 := h.row.set_ k (uv T)
  rw [← List.map_set] at h3
  exact h3
def CutRel (us : List Nat) (W0 g r : Nat) (w : World) (i : Value) (wr : World) : Prop :=
  ∃ k : Nat, k ≤ us.length ∧ i = .int .i64 (k : Int) ∧ Cutting (prow us W0 k) (pst W0 us k).1 (pst W0 us k).2 g r w wr
def CutIn (row : List Nat) (ps : List (Nat × Nat)) (l0 J g r : Nat) (w : World) (_i : Value) (wr : World) : Prop :=
  ∃ i : Nat, i ≤ J ∧ Cutting row (ps ++ List.replicate i (255, 0)) (l0 + 255 * i) g r w wr
def pairsV (u v : Value) : Value := .agg #[u, v]
def CutPost (us : List Nat) (W0 g : Nat) (w : World) (e : Ending) (w' : World) : Prop :=
  ∃ u v, e = .returned (pairsV u v) ∧ IsV uv ((ppairs W0 us).map (·.1)) u w' ∧ IsV uv ((ppairs W0 us).map (·.2)) v w' ∧ Row w' g 62 ((plow us W0).map uv) ∧ Below g w w'
theorem pairs_size : (Tryd.prog.info? 45).map (·.size) = some 2 := by kernel_rfl
set_option maxHeartbeats 4000000 in
set_option maxRecDepth 100000 in
theorem cut_any (us : List Nat) (W0 g n : Nat) (w : World) (hr : Row w g 62 (us.map uv)) (hn : us.length = n) (h64 : ∀ u ∈ us, u < 2 ^ 64) (hb : n ≤ 10000) (hw : W0 ≤ 64) :
    Calls Tryd.prog 20 #[.slice (some ⟨g, 0, none⟩) n n, .int .i64 (W0 : Int)] w (CutPost us W0 g w) := by
  have hgr := hr.lt
  obtain ⟨r, hrz⟩ : ∃ r, r = w.heap.size := ⟨_, rfl⟩
  rw [← hrz] at hgr
  have HN := Lib.hid hn
  have H64 := Lib.hid h64
  obtain ⟨w1, hw1⟩ : ∃ w1, w1 = w.alloc (.cells #[.slice none 0 0, .slice none 0 0] 45) := ⟨_, rfl⟩
  have z1 : w1.heap.size = r + 1 := by rw [hw1, hrz]; simp
  obtain ⟨w2, hw2⟩ : ∃ w2, w2 = w1.alloc (.cells #[.slice none 0 0, .slice none 0 0] 45) := ⟨_, rfl⟩
  have z2 : w2.heap.size = r + 2 := by rw [hw2]; simp [z1]
  obtain ⟨w3, hw3⟩ : ∃ w3, w3 = w2.alloc (.cells #[.int .i64 0] 3) := ⟨_, rfl⟩
  have z3 : w3.heap.size = r + 3 := by rw [hw3]; simp [z2]
  have b1 : Below g w w1 := by rw [hw1]; exact (Below.refl _ _).alloc (by omega) _
  have b2 : Below g w w2 := by rw [hw2]; exact b1.alloc (by omega) _
  have b3 : Below g w w3 := by rw [hw3]; exact b2.alloc (by omega) _
  have q1 : Row w1 r 45 [.slice none 0 0, .slice none 0 0] := by rw [hw1, hrz]; exact heap_alloc_new w _
  have q2 : Row w2 (r + 1) 45 [.slice none 0 0, .slice none 0 0] := by rw [hw2, ← z1]; exact heap_alloc_new w1 _
  have q3 : Row w3 (r + 2) 3 [.int .i64 0] := by rw [hw3, ← z2]; exact heap_alloc_new w2 _
  have HC := Lib.hid (show Cutting us [] 0 g r w w3 from by
    refine ⟨⟨.slice none 0 0, .slice none 0 0, ?_, Two.nil _ _⟩, q3, ?_, ?_, by omega, b3⟩
    · rw [hw3]; exact q2.alloc _
    · rw [hw3, hw2]; exact (q1.alloc _).alloc _
    · rw [hw3, hw2, hw1]; exact ((hr.alloc _).alloc _).alloc _)
  have HS := Lib.hid (show CutRel us W0 g r w (.int .i64 0) w3 from ⟨0, Nat.zero_le _, rfl, by rw [prow_zero]; exact HC.out⟩)
  clear HC q1 q2 q3 b1 b2 b3 hr hn h64
  go_enter Tryd.func20, Tryd.ntmps20
  go_wp2
  rw [← hrz, ← hw1, ← hw2, ← hw3, show r + 1 + 1 = r + 2 from rfl]
  have HZ := Lib.hid hrz
  clear hw1 hw2 hw3 z1 z2 z3 hrz
  go_loopw [14] (CutRel us W0 g r w) (fun i _ => n - (intOf i).toNat)
  case atStart => exact HS.out
  case round =>
    obtain ⟨k, hk, rfl, hC⟩ := hrel
    have HC := Lib.hid hC
    have hkn : k ≤ n := by have := HN.out; omega
    by_cases hlt : k < n
    · have hkl : k < us.length := by have := HN.out; omega
      have hlti : (k : Int) < (n : Int) := by omega
      obtain ⟨u, hu⟩ : ∃ u, u = us[k] := ⟨_, rfl⟩
      have hcu : wr.cell? ⟨g, k, none⟩ = some (.int .u64 (u : Int)) := by rw [hC.row.cell, List.getElem?_map, prow_at hkl, ← hu]; rfl
      have hgd : us.getD k 0 = u := by rw [List.getD_eq_getElem?_getD, List.getElem?_eq_getElem hkl, hu]; rfl
      have hu64 : u < 18446744073709551616 := by rw [hu]; exact H64.out _ (List.getElem_mem hkl)
      obtain ⟨q, hq⟩ : ∃ q, q = u / 2 ^ W0 := ⟨_, rfl⟩
      have hsh : (u : Int) / 2 ^ W0 = (q : Int) := by rw [hq]; simp
      have hlast := pst_last W0 us k
      have hpl := pst_len W0 us k
      have HNX := Lib.hid (prow_set (w := W0) hkl)
      rw [← hu] at HNX
      obtain ⟨last, hla⟩ : ∃ last, last = (pst W0 us k).2 := ⟨_, rfl⟩
      obtain ⟨ps, hps⟩ : ∃ ps, ps = (pst W0 us k).1 := ⟨_, rfl⟩
      rw [← hla] at hlast hpl HC
      rw [← hps] at HC hpl
      have hplb : ps.length ≤ 20000 := by omega
      have hca : wr.cell? ⟨r + 2, 0, none⟩ = some (.int .i64 (last : Int)) := HC.out.box.cell 0
      have HLA := Lib.hid hla
      have HPS := Lib.hid hps
      have HGD := Lib.hid hgd
      have HQ := Lib.hid hq
      have HU := Lib.hid hu
      clear hu hgd hq hla hps hpl hC HS
      by_cases hq0 : q = 0
      · have HSK : Hid (pst W0 us (k + 1) = pst W0 us k) := Lib.hid (pst_skip (by rw [HGD.out, ← HQ.out, hq0]))
        have HSR : Hid (prow us W0 (k + 1) = prow us W0 k) := Lib.hid (prow_same hkl (by rw [← HU.out, ← HQ.out, hq0]))
        have hsz : (u : Int) / 2 ^ W0 = 0 := by rw [hsh, hq0]; rfl
        clear hsh hq0
        go_wp2
        go_roundw
        case rel => exact ⟨k + 1, hkl, by go_num, by rw [HSK.out, HSR.out, ← HLA.out, ← HPS.out]; exact HC.out⟩
        case measure => simp [intOf]; omega
      · obtain ⟨j, hj⟩ : ∃ j, j = (k - last - 1) / 255 := ⟨_, rfl⟩
        have HMO : Hid (pst W0 us (k + 1) = (ps ++ (List.replicate j (255, 0) ++ [(k - last - 255 * j, q)]), k)) := Lib.hid (by rw [pst_more (by rw [HGD.out, ← HQ.out]; exact hq0), ← HLA.out, ← HPS.out, ← hj, HGD.out, ← HQ.out])
        have hq1 : ((q : Int) == 0) = false := by rw [beq_eq_false_iff_ne]; omega
        obtain ⟨row, hrow⟩ : ∃ row, row = prow us W0 k := ⟨_, rfl⟩
        have HRK := Lib.hid (show row[k]? = some u by rw [hrow, prow_at hkl, HU.out])
        rw [← hrow] at HC HNX
        have HST := Lib.hid (show CutIn row ps last j g r w undef wr from ⟨0, Nat.zero_le _, by simpa using HC.out⟩)
        have HJ := Lib.hid hj
        have hjb : j ≤ 10000 := by omega
        clear hj hq0 hrow
        go_wp2
        clear hcu hca
        go_loopw [24] (CutIn row ps last j g r w) (fun _ W => k - boxNat (r + 2) W)
        case atStart => exact HST.out
        case round =>
          obtain ⟨i, hi, hC⟩ := hrel
          have HC2 := Lib.hid hC
          obtain ⟨L, hL⟩ : ∃ L, L = last + 255 * i := ⟨_, rfl⟩
          rw [← hL] at HC2
          have hca : wr.cell? ⟨r + 2, 0, none⟩ = some (.int .i64 (L : Int)) := HC2.out.box.cell 0
          have HBX := Lib.hid (boxNat_row HC2.out.box)
          obtain ⟨d, hd⟩ : ∃ d, d = k - L := ⟨_, rfl⟩
          have hLk : L ≤ k := by have := HJ.out; omega
          have hdi : (k : Int) - (L : Int) = (d : Int) := by omega
          have hdw : IntKind.i64.wrap (d : Int) = (d : Int) := by rw [IntKind.wrap_i64]; omega
          have hlen : (ps ++ List.replicate i (255, 0)).length ≤ 1000000 := by rw [List.length_append, List.length_replicate]; omega
          have HL := Lib.hid hL
          have HD := Lib.hid hd
          clear hL hd hC HST
          by_cases hij : i < j
          · have hd5 : (255 : Int) < (d : Int) := by have := HJ.out; have := HL.out; have := HD.out; omega
            have HA := Lib.hid (HC2.out.add hgr 255 0 hlen (by omega) (by omega))
            clear hlen
            go_wp2_with (go_at_call 49; refine HA.out.mono ?_; rintro e w4 ⟨rfl, hC4⟩)
            have HC4 := Lib.hid hC4
            clear hC4
            go_roundw
            case rel => exact ⟨i + 1, hij, by rw [List.replicate_succ', ← List.append_assoc, show last + 255 * (i + 1) = L + 255 by have := HL.out; omega]; exact HC4.out⟩
            case measure => rw [boxNat_row HC4.out.box, HBX.out]; omega
          · obtain rfl : i = j := by omega
            have hd5 : ¬ (255 : Int) < (d : Int) := by have := HJ.out; have := HL.out; have := HD.out; omega
            have HA := Lib.hid (HC2.out.add hgr d q hlen (by omega) (by omega))
            have HLD : Hid (L + d = k ∧ d = k - last - 255 * i) := Lib.hid (by have := HL.out; have := HD.out; omega)
            clear hlen
            go_wp2_with (go_at_call 49; refine HA.out.mono ?_; rintro e w4 ⟨rfl, hC4⟩)
            have HC4 := Lib.hid hC4
            rw [List.append_assoc, HLD.out.1, HLD.out.2] at HC4
            clear hC4
            obtain ⟨T, hT⟩ : ∃ T, T = u % 2 ^ W0 := ⟨_, rfl⟩
            rw [← hT] at HNX
            obtain ⟨M, hM⟩ : ∃ M, M = 2 ^ W0 - 1 := ⟨_, rfl⟩
            have hMb : M < 18446744073709551616 := by
              have h1 : 2 ^ W0 ≤ 2 ^ 64 := Nat.pow_le_pow_right (by omega) hw
              have h2 := Nat.two_pow_pos W0
              omega
            have hand : bits .and .u64 (u : Int) (M : Int) = (T : Int) := by rw [u64_and_nat _ _ hu64 hMb, hM, Nat.and_two_pow_sub_one_eq_mod, hT]
            have HLW := Lib.hid (fun W => plow_any W0 M W hw hM)
            have hcu : w4.cell? ⟨g, k, none⟩ = some (.int .u64 (u : Int)) := by rw [HC4.out.row.cell, List.getElem?_map, HRK.out]; rfl
            have hfu := HC4.out.row.free k
            have HC5 := Lib.hid (HC4.out.set hgr k T)
            rw [HNX.out] at HC5
            have HREL := Lib.hid (show CutRel us W0 g r w (.int .i64 ((k : Int) + 1)) (w4.setCell ⟨g, k, none⟩ (.int .u64 (T : Int))) from ⟨k + 1, hkl, by go_num, by rw [HMO.out]; exact HC5.out⟩)
            clear hT hM hMb
            go_wp2_with (go_at_call 50; refine (HLW.out _).mono ?_; rintro e w5 ⟨rfl, rfl⟩)
            go_roundw
            case rel => exact HREL.out
            case measure => simp [intOf]; omega
    · obtain rfl : k = n := by omega
      have hlti : ¬ (k : Int) < (k : Int) := by omega
      have HE : Hid ((pst W0 us k).1 = ppairs W0 us ∧ prow us W0 k = plow us W0) := Lib.hid ⟨by unfold ppairs; rw [HN.out], by rw [← HN.out]; exact prow_all _ _⟩
      rw [HE.out.1, HE.out.2] at HC
      obtain ⟨u, v, hrb, h2⟩ := HC.out.ex
      have hc0 : wr.cell? ⟨r + 1, 0, none⟩ = some u := hrb.cell 0
      have hc1 : wr.cell? ⟨r + 1, 1, none⟩ = some v := hrb.cell 1
      have H2 := Lib.hid h2
      obtain ⟨A1, c1, hu, _⟩ := own_shape h2.h1
      obtain ⟨A2, c2, hv, _⟩ := own_shape h2.h2
      generalize hm : (ppairs W0 us).length = m at hu hv H2
      subst hu hv
      clear hC hrb h2 hm
      have hr0 : wr.cell? ⟨r, 0, none⟩ = some (.slice none 0 0) := HC.out.res.cell 0
      have hf0 := HC.out.res.free 0
      have hs1 := HC.out.res.set_ 0 (.slice A1 m c1)
      have hr1 : (wr.setCell ⟨r, 0, none⟩ (.slice A1 m c1)).cell? ⟨r, 1, none⟩ = some (.slice none 0 0) := hs1.cell 1
      have hf1 := hs1.free 1
      have hs2 := hs1.set_ 1 (.slice A2 m c2)
      rw [show (([Value.slice none 0 0, .slice none 0 0].set 0 (.slice A1 m c1)).set 1 (.slice A2 m c2)) = [.slice A1 m c1, .slice A2 m c2] from rfl] at hs2
      obtain ⟨W, hW⟩ : ∃ W, W = (wr.setCell ⟨r, 0, none⟩ (.slice A1 m c1)).setCell ⟨r, 1, none⟩ (.slice A2 m c2) := ⟨_, rfl⟩
      rw [← hW] at hs2
      have HS2 := Lib.hid hs2
      have h3 : Two W (r + 3) (.slice A1 m c1) (.slice A2 m c2) m m (((ppairs W0 us).map (·.1)).map uv) (((ppairs W0 us).map (·.2)).map uv) := by rw [hW]; exact (H2.out.past (grown_set _ r 0 _) (by omega)).past (grown_set _ r 1 _) (by omega)
      have HU := Lib.hid (isV_own h3.h1)
      have HV := Lib.hid (isV_own h3.h2)
      have HG := Lib.hid (show Row W g 62 ((plow us W0).map uv) by rw [hW]; exact (HC.out.row.far (p := ⟨r, 0, none⟩) (by dsimp only; omega) _).far (p := ⟨r, 1, none⟩) (by dsimp only; omega) _)
      have HBW := Lib.hid (show Below g w W by rw [hW]; exact (HC.out.below.setCell (p := ⟨r, 0, none⟩) (Nat.le_of_lt hgr) _).setCell (p := ⟨r, 1, none⟩) (Nat.le_of_lt hgr) _)
      have HW := Lib.hid hW
      clear hs1 hs2 h3 hW
      go_wp2
      rw [← HW.out]
      refine ret_struct rfl rfl HS2.out Tryd.underlying45 rfl pairs_size rfl ?_
      exact ⟨_, _, rfl, HU.out, HV.out, HG.out, HBW.out⟩
end Go.Proofs.YtdcgkjcefbceeaaDoor
