/- Texts that the claims of this seat share, part 8: UMore UBd URef URun UTake ULoc UKinds URep UOwn. -/
import Derived.Test.YtblpkmmhmdpkjaaGreatDoorDG7
/- Runs (layer 11): what each kind gives back, how long it is. -/







namespace Go.Proofs.YtblpkmmhmdpkjaaGreatDoor

theorem dplain_ok {l : List Int} {s : Bool} (h : dplain l s ≠ none) : ∀ x ∈ l, s = true ∨ 0 ≤ x := by
  intro x hx
  cases s with
  | true => exact .inl rfl
  | false =>
    refine .inr (Int.not_lt.1 fun h0 => h (omap_none (x := x) hx ?_))
    unfold eplain
    rw [if_neg (by simp), if_neg (by omega)]
theorem dplain_sub {l m : List Int} {s : Bool} (h : dplain l s ≠ none) (hm : ∀ x ∈ m, x ∈ l) : dplain m s ≠ none := by
  have h1 := dplain_ok h
  intro h2
  have h0 : ∀ m : List Int, (∀ x ∈ m, s = true ∨ 0 ≤ x) → dplain m s ≠ none := by
    intro m
    induction m with
    | nil => intro _ h; cases h
    | cons x m ih =>
      intro hl h
      have h3 := ih fun y hy => hl y (List.mem_cons_of_mem _ hy)
      obtain ⟨u, hu⟩ : ∃ u, eplain x s = some u := by
        unfold eplain
        rcases hl x List.mem_cons_self with h | h
        · exact ⟨_, if_pos h⟩
        · cases s with
          | true => exact ⟨_, if_pos rfl⟩
          | false => exact ⟨x.toNat, by rw [if_neg (by simp), if_pos (by assumption)]⟩
      unfold dplain at h h3
      rw [omap, hu] at h
      cases ho : omap (eplain · s) m with
      | none => exact h3 ho
      | some us => rw [ho] at h; cases h
  exact h0 m (fun x hx => h1 x (hm x hx)) h2
theorem dheadN_first {k c m : Nat} (hk : k ≤ 3) (hc : c ≤ 31) (h1 : 1 ≤ m) (hm : m ≤ 512) : ∃ x y, dheadN k c m = [x, y] ∧ x.toNat / 64 = k := by
  obtain ⟨X, hX⟩ : ∃ X, X = 16384 * k + 512 * c + (m - 1) := ⟨_, rfl⟩
  refine ⟨UInt8.ofNat (X / 256 ^ 1 % 256), UInt8.ofNat (X / 256 ^ 0 % 256), by unfold dheadN; rw [← hX]; rfl, ?_⟩
  simp only [UInt8.toNat_ofNat', Nat.reducePow]
  omega
theorem uone_direct {c m : Nat} {r : List UInt8} {s : Bool} (hc : c ≤ 31) (h1 : 1 ≤ m) (hm : m ≤ 512) : uone (dheadN 1 c m ++ r) s = dtakeE (dheadN 1 c m ++ r) s := by
  obtain ⟨x, y, h, hx⟩ := dheadN_first (k := 1) (by omega) hc h1 hm
  rw [h, List.cons_append]
  unfold uone
  dsimp only
  rw [if_pos hx]
theorem uone_patched {c m : Nat} {r : List UInt8} {s : Bool} (hc : c ≤ 31) (h1 : 1 ≤ m) (hm : m ≤ 512) : uone (dheadN 2 c m ++ r) s = ptakeE (dheadN 2 c m ++ r) s := by
  obtain ⟨x, y, h, hx⟩ := dheadN_first (k := 2) (by omega) hc h1 hm
  rw [h, List.cons_append]
  unfold uone
  dsimp only
  rw [if_neg (by omega), if_pos hx]
theorem uone_delta {c m : Nat} {r : List UInt8} {s : Bool} (hc : c ≤ 31) (h1 : 1 ≤ m) (hm : m ≤ 512) : uone (dheadN 3 c m ++ r) s = gtakeE (dheadN 3 c m ++ r) s := by
  obtain ⟨x, y, h, hx⟩ := dheadN_first (k := 3) (by omega) hc h1 hm
  rw [h, List.cons_append]
  unfold uone
  dsimp only
  rw [if_neg (by omega), if_neg (by omega), if_pos hx]
theorem uone_repeat {u t : Nat} {r : List UInt8} {s : Bool} (hu : u < 2 ^ 64) (h3 : 3 ≤ t) (h10 : t ≤ 10) : uone (elay u t ++ r) s = (List.replicate (etake (elay u t ++ r) s).2.1.toNat (etake (elay u t ++ r) s).1, (etake (elay u t ++ r) s).2.2.1, (etake (elay u t ++ r) s).2.2.2) := by
  have h8 := ebytes_8 hu
  have h1 := ebytes_pos u
  obtain ⟨x, hx⟩ : ∃ x, x = UInt8.ofNat (8 * (ebytes u - 1) + (t - 3)) := ⟨_, rfl⟩
  have hx0 : x.toNat / 64 = 0 := by rw [hx]; simp only [UInt8.toNat_ofNat', Nat.reducePow]; omega
  have he : elay u t ++ r = x :: (be (ebytes u) u ++ r) := by unfold elay; rw [← hx]; rfl
  rw [he]
  unfold uone
  dsimp only
  rw [if_neg (by omega), if_neg (by omega), if_neg (by omega)]
theorem eputE_cases {x t : Int} {s : Bool} {b : List UInt8} (h : eput x t s = (b, 0)) : 3 ≤ t ∧ t ≤ 10 ∧ ∃ u, eplain x s = some u ∧ b = elay u t.toNat := by
  unfold eput at h
  split at h
  · injection h with _ h; cases h
  · rename_i ht
    split at h
    · injection h with _ h; cases h
    · rename_i u hu
      injection h with h _
      exact ⟨by omega, by omega, u, hu, h.symm⟩
theorem dputE_cases {l : List Int} {s : Bool} {b : List UInt8} (h : dputE l s = (b, 0)) : 1 ≤ l.length ∧ l.length ≤ 512 ∧ ∃ u, dplain l s = some u ∧ b = dlay u := by
  unfold dputE at h
  split at h
  · injection h with _ h; cases h
  · rename_i u hu
    split at h
    · injection h with _ h; cases h
    · injection h with h _
      exact ⟨by omega, by omega, u, hu, h.symm⟩
theorem gputE_cases {l : List Int} {s : Bool} {b : List UInt8} (h : gputE l s = (b, 0)) : dplain l s ≠ none ∧ 2 ≤ l.length ∧ l.length ≤ 512 ∧ ∃ us, gsizes l (gfalls l) (l.length - 1) = some us ∧ b = glay l s us := by
  unfold gputE at h
  split at h
  · injection h with _ h; cases h
  · rename_i hn
    split at h
    · injection h with _ h; cases h
    · rename_i us hu
      injection h with h _
      exact ⟨fun h2 => hn (.inl h2), Nat.not_lt.1 fun h2 => hn (.inr (.inl h2)), Nat.not_lt.1 fun h2 => hn (.inr (.inr h2)), us, hu, h.symm⟩
theorem pputE_ok {l : List Int} {W : Int} {s : Bool} {b : List UInt8} (h : pputE l W s = (b, 0)) : ∃ us, pups l = some us ∧ 1 ≤ l.length ∧ l.length ≤ 512 ∧ 0 ≤ wcode W ∧ W < 64 ∧ pbase l ≠ -9223372036854775808 ∧ (ppairs W.toNat us).length ≤ 31 ∧ pgw (ppairs W.toNat us) + ppw (ppairs W.toNat us) ≤ 64 ∧ b = play (pbase l) us W.toNat := by
  unfold pputE at h
  split at h
  · injection h with _ h; cases h
  · rename_i h1
    split at h
    · injection h with _ h; cases h
    · rename_i us hu
      split at h
      · injection h with _ h; cases h
      · rename_i h2
        injection h with h _
        refine ⟨us, hu, ?_, ?_, ?_, ?_, ?_, ?_, ?_, h.symm⟩
        · exact Nat.not_lt.1 fun h => h1 (.inr (.inl h))
        · exact Nat.not_lt.1 fun h => h1 (.inr (.inr (.inl h)))
        · exact Int.not_lt.1 fun h => h1 (.inr (.inr (.inr (.inl h))))
        · exact Int.not_le.1 fun h => h1 (.inr (.inr (.inr (.inr h))))
        · exact fun h => h2 (.inl h)
        · exact Nat.not_lt.1 fun h => h2 (.inr (.inl h))
        · exact Nat.not_lt.1 fun h => h2 (.inr (.inr (.inl h)))
theorem wof_nat (c : Nat) : ∃ W : Nat, wof (c : Int) = (W : Int) := ⟨(wof (c : Int)).toNat, by have := (wof_bd (c : Int)).1; omega⟩
/-- A run that may be gives the numbers back. -/
theorem ucand_back {l : List Int} {s : Bool} {b : List UInt8} (hl : ∀ x ∈ l, inInt x) (hp : dplain l s ≠ none) (h1 : 1 ≤ l.length) (h : (b, (0 : Int)) ∈ ucands l s) (r : List UInt8) : uone (b ++ r) s = (l, r, 0) ∧ 2 ≤ b.length := by
  have hok := dplain_ok hp
  unfold ucands ucands0 at h
  simp only [List.mem_append, List.mem_cons, List.mem_map, List.mem_range, List.not_mem_nil, or_false] at h
  rcases h with (h | h | h) | ⟨c, hc, h⟩
  · split at h
    · rename_i hs
      rw [List.mem_singleton] at h
      obtain ⟨h3, h10, u, hu, hb⟩ := eputE_cases h.symm
      obtain ⟨x, l', rfl⟩ : ∃ x l', l = x :: l' := by cases l with | nil => simp at h1 | cons x l' => exact ⟨x, l', rfl⟩
      rw [List.headD_cons] at hu
      have hx := hl x List.mem_cons_self
      have hu64 := eplain_lt hx.1 hx.2 hu
      have hrep := usame_take (x := x) (r := l') (k := (x :: l').length) (by omega)
      rw [List.take_of_length_le (Nat.le_refl _)] at hrep
      rw [Int.toNat_natCast] at hb
      have h3' : 3 ≤ (x :: l').length := by omega
      have h10' : (x :: l').length ≤ 10 := by omega
      subst hb
      refine ⟨?_, by rw [elay_len]; have := ebytes_pos u; omega⟩
      rw [uone_repeat hu64 h3' h10', etake_back hu64 h3' h10' (emade_eplain hx.1 hx.2 hu)]
      dsimp only
      rw [Int.toNat_natCast, ← hrep]
    · cases h
  · obtain ⟨_, h5, u, hu, hb⟩ := dputE_cases h.symm
    have hu64 := dplain_lt hl hu
    have hul := dplain_len hu
    subst hb
    refine ⟨?_, by unfold dlay; rw [List.length_append, dheadN_len]; omega⟩
    have h2 := dtake_back hl h1 h5 hu r
    unfold dlay at h2 ⊢
    rw [List.append_assoc] at h2 ⊢
    rw [uone_direct (dcode_int hu64).2.1 (by omega) (by omega)]
    exact h2
  · obtain ⟨_, h2', h5, us, hu, hb⟩ := gputE_cases h.symm
    have h64t : ∀ u ∈ us.tail, u < 2 ^ 64 := fun u h => gsizes_64 hu u (List.mem_of_mem_tail h)
    have hcode : gnum us ≤ 31 := by
      unfold gnum
      split
      · omega
      · exact (gwide_int h64t).2.2.2.2.2.2.1
    subst hb
    refine ⟨?_, by unfold glay; simp only [List.length_append, dheadN_len]; omega⟩
    have h2 := gtake_back (fun x hx => ⟨hl x hx, hok x hx⟩) h2' h5 hu r
    unfold glay at h2 ⊢
    simp only [List.append_assoc] at h2 ⊢
    rw [uone_delta hcode h1 h5]
    exact h2
  · obtain ⟨W, hW⟩ := wof_nat c
    rw [hW] at h
    obtain ⟨us, hu, _, h5, hc0, h64, hne, h31, hgp, hb⟩ := pputE_ok h
    rw [Int.toNat_natCast] at h31 hgp hb
    have hul := pups_len hu
    subst hb
    refine ⟨?_, by unfold play; simp only [List.length_append, dheadN_len]; omega⟩
    have h2 := ptake_back (fun x hx => ⟨hl x hx, hok x hx⟩) h1 h5 hc0 (by omega) hu hne h31 hgp r
    unfold play at h2 ⊢
    simp only [List.append_assoc] at h2 ⊢
    rw [uone_patched (pcode_back hc0).2.1 (by omega) (by omega)]
    exact h2
theorem bsize_eight {n W : Nat} (hW : W ≤ 64) : bsize n W ≤ 8 * n := by
  have : n * W ≤ n * 64 := Nat.mul_le_mul_left _ hW
  unfold bsize
  omega
/-- Run: what it answers. -/
theorem urunE_no {l : List Int} {s : Bool} (h : dplain l s = none ∨ l.length < 1 ∨ 512 < l.length) : urunE l s = ([], 1) := by unfold urunE; rw [if_pos h]
theorem urunE_in {l : List Int} {s : Bool} (h : dplain l s ≠ none) (h1 : 1 ≤ l.length) (h5 : l.length ≤ 512) : urunE l s = ((ucands l s).foldl ushorter [], 0) := by
  unfold urunE
  rw [if_neg]
  rintro (h2 | h2 | h2)
  · exact h h2
  · omega
  · omega
theorem urunE_le {l : List Int} {s : Bool} (hl : ∀ x ∈ l, inInt x) (h : dplain l s ≠ none) (h1 : 1 ≤ l.length) (h5 : l.length ≤ 512) {p : List UInt8 × Int} (hp : p ∈ ucands l s) (h0 : p.2 = 0) : (urunE l s).1.length ≤ p.1.length := by
  rw [urunE_in h h1 h5]
  refine ((ushort_le (cs := ucands l s) (a := []) fun q hq h2 => ?_).2 p hp h0).2
  have h3 := ucand_back (b := q.1) hl h h1 (by rw [← h2]; exact hq) []
  omega
theorem dput_mem (l : List Int) (s : Bool) : dputE l s ∈ ucands l s := by unfold ucands ucands0; simp
theorem dputE_in {l : List Int} {s : Bool} (h : dplain l s ≠ none) (h1 : 1 ≤ l.length) (h5 : l.length ≤ 512) : ∃ u, dplain l s = some u ∧ dputE l s = (dlay u, 0) := by
  cases hu : dplain l s with
  | none => exact absurd hu h
  | some u => exact ⟨u, rfl, dputE_ok hu h1 h5⟩
theorem urun_back {l : List Int} {s : Bool} (hl : ∀ x ∈ l, inInt x) (h : dplain l s ≠ none) (h1 : 1 ≤ l.length) (h5 : l.length ≤ 512) (r : List UInt8) :
    (urunE l s).2 = 0 ∧ uone ((urunE l s).1 ++ r) s = (l, r, 0) ∧ 2 ≤ (urunE l s).1.length ∧ (urunE l s).1.length ≤ 2 + 8 * l.length := by
  obtain ⟨u, hu, hd⟩ := dputE_in h h1 h5
  have hle := urunE_le hl h h1 h5 (dput_mem l s) (by rw [hd])
  have hu64 := dplain_lt hl hu
  rw [hd] at hle
  have hbd : (dlay u).length ≤ 2 + 8 * l.length := by
    have := bsize_eight (n := u.length) (dwide_room hu64).2.1
    have := dplain_len hu
    unfold dlay
    rw [List.length_append, dheadN_len, bpack_len]
    omega
  dsimp only at hle
  have hin := urunE_in h h1 h5
  have hmem : ((urunE l s).1, (0 : Int)) ∈ ucands l s := by
    rw [hin]
    rcases ushort_mem (cs := ucands l s) (a := []) with h2 | h2
    · exfalso
      have h3 := (ushort_le (cs := ucands l s) (a := []) fun q hq h2 => by
        have h3 := ucand_back (b := q.1) hl h h1 (by rw [← h2]; exact hq) []
        omega).2 _ (dput_mem l s) (by rw [hd])
      rw [h2] at h3
      simp at h3
    · exact h2
  obtain ⟨h2, h3⟩ := ucand_back hl h h1 hmem r
  exact ⟨by rw [hin], h2, h3, by omega⟩
/-- Put of numbers that may be laid down, and what Take makes of it. -/
theorem uputN_back {s : Bool} {r : List UInt8} : ∀ (k : Nat) (l out : List Int) (fuel : Nat), l.length ≤ k → l.length + 1 ≤ fuel → (∀ x ∈ l, inInt x) → dplain l s ≠ none →
    (uputN s k l).2 = 0 ∧ (uputN s k l).1.length ≤ 10 * l.length ∧ utakeN s (out.length + l.length) fuel out ((uputN s k l).1 ++ r) = (out ++ l, r, 0)
  | 0, l, out, fuel, hk, hf, _, _ => by
    obtain rfl : l = [] := List.eq_nil_of_length_eq_zero (by omega)
    obtain ⟨f, rfl⟩ : ∃ f, fuel = f + 1 := ⟨fuel - 1, by omega⟩
    refine ⟨rfl, by simp [uputN], ?_⟩
    rw [uputN, utakeN]
    simp
  | k + 1, l, out, fuel, hk, hf, hl, hp => by
    obtain ⟨f, rfl⟩ : ∃ f, fuel = f + 1 := ⟨fuel - 1, by omega⟩
    by_cases h0 : l.length = 0
    · obtain rfl : l = [] := List.eq_nil_of_length_eq_zero h0
      refine ⟨by simp [uputN], by simp [uputN], ?_⟩
      have e : (uputN s (k + 1) []) = ([], 0) := by simp [uputN]
      rw [e, utakeN]
      simp
    · obtain ⟨c1, c2, c3⟩ := ucut_bd (l := l) (by omega)
      obtain ⟨n, hn⟩ : ∃ n, n = ucut l := ⟨_, rfl⟩
      rw [← hn] at c1 c2 c3
      have htl : (l.take n).length = n := by rw [List.length_take]; omega
      have hdl : (l.drop n).length = l.length - n := List.length_drop
      obtain ⟨r0, _, _, r3⟩ := urun_back (l := l.take n) (s := s) (fun x hx => hl x (List.mem_of_mem_take hx)) (dplain_sub hp fun x hx => List.mem_of_mem_take hx) (by omega) (by omega) []
      obtain ⟨i0, i1, i2⟩ := uputN_back (s := s) (r := r) k (l.drop n) (out ++ l.take n) f (by omega) (by omega) (fun x hx => hl x (List.mem_of_mem_drop hx)) (dplain_sub hp fun x hx => List.mem_of_mem_drop hx)
      obtain ⟨_, r1, _, _⟩ := urun_back (l := l.take n) (s := s) (fun x hx => hl x (List.mem_of_mem_take hx)) (dplain_sub hp fun x hx => List.mem_of_mem_take hx) (by omega) (by omega) ((uputN s k (l.drop n)).1 ++ r)
      rw [uputN, ← hn, if_neg h0, if_neg (by rw [r0]; simp), if_neg (by rw [i0]; simp)]
      refine ⟨rfl, by rw [List.length_append]; omega, ?_⟩
      dsimp only
      rw [List.append_assoc, utakeN, if_neg (by omega), r1]
      dsimp only
      rw [if_neg (by simp)]
      rw [List.length_append, htl, hdl, show out.length + n + (l.length - n) = out.length + l.length by omega] at i2
      rw [i2, List.append_assoc, List.take_append_drop]
end Go.Proofs.YtblpkmmhmdpkjaaGreatDoor

/- Runs (layer 11): how much a run gives. -/





namespace Go.Proofs.YtblpkmmhmdpkjaaGreatDoor

theorem nat_of {m : Int} (h : 0 ≤ m) : ∃ n : Nat, m = (n : Int) := ⟨m.toNat, by omega⟩
theorem dtake_bd {b : List UInt8} {s : Bool} (h : (dtakeE b s).2.2 = 0) : 1 ≤ (dtakeE b s).1.length ∧ (dtakeE b s).1.length ≤ 512 ∧ (dtakeE b s).2.1.length ≤ b.length := by
  obtain ⟨K, C, M, r, x, hd⟩ : ∃ K C M r x, dlook b = (K, C, M, r, x) := ⟨_, _, _, _, _, rfl⟩
  have hbd := dlook_bd b
  unfold dtakeE at h ⊢
  rw [hd] at h hbd ⊢
  dsimp only at h hbd ⊢
  split at h
  · cases h
  · rename_i hn
    rw [if_neg hn]
    have hx : x = 0 := Decidable.not_not.1 fun h2 => hn (.inl h2)
    subst hx
    have hM := dlook_many hd
    obtain ⟨m, rfl⟩ := nat_of (show 0 ≤ M by omega)
    obtain ⟨u, q, e, hu⟩ : ∃ u q e, unpacksAny r (m : Int) (wof C) = (u, q, e) := ⟨_, _, _, rfl⟩
    rw [hu] at h ⊢
    dsimp only at h ⊢
    split at h
    · cases h
    · rename_i he
      rw [if_neg he]
      have he0 : e = 0 := Decidable.not_not.1 he
      subst he0
      obtain ⟨h1, h2⟩ := unpacksAny_len hu
      cases hm : dmade u s with
      | none => rw [hm] at h; cases h
      | some o =>
        have h3 := dmade_len hm
        dsimp only
        omega
theorem upstep_len {w g p m v : Nat} {st st' : Nat × List Nat} (h : pstep w g p m st v = some st') : st'.2.length = st.2.length := by
  unfold pstep at h
  split at h
  · injection h with h; subst h; simp
  · cases h
theorem upall_len {w g p m : Nat} : ∀ {vs : List Nat} {st st' : Nat × List Nat}, pall w g p m st vs = some st' → st'.2.length = st.2.length
  | [], st, st', h => by rw [pall] at h; injection h with h; rw [h]
  | v :: vs, st, st', h => by
    rw [pall] at h
    cases hs : pstep w g p m st v with
    | none => rw [hs] at h; cases h
    | some s2 =>
      rw [hs] at h
      rw [upall_len h, upstep_len hs]
theorem ptake_bd {b : List UInt8} {s : Bool} (h : (ptakeE b s).2.2 = 0) : 1 ≤ (ptakeE b s).1.length ∧ (ptakeE b s).1.length ≤ 512 ∧ (ptakeE b s).2.1.length ≤ b.length := by
  obtain ⟨K, C, M, r, x, hd⟩ : ∃ K C M r x, dlook b = (K, C, M, r, x) := ⟨_, _, _, _, _, rfl⟩
  have hbd := dlook_bd b
  rw [hd] at hbd
  dsimp only at hbd
  by_cases hk : x ≠ 0 ∨ K ≠ 2
  · rw [ptakeE_head (by rw [hd]; exact hk)] at h; cases h
  · obtain rfl : x = 0 := Decidable.not_not.1 fun h2 => hk (.inl h2)
    obtain rfl : K = 2 := Decidable.not_not.1 fun h2 => hk (.inr h2)
    have hM := dlook_many hd
    rw [ptakeE_in hd] at h ⊢
    obtain ⟨m, rfl⟩ := nat_of (show 0 ≤ M by omega)
    by_cases h2 : r.length < 2
    · rw [pbody_short h2] at h; cases h
    · obtain ⟨p, hp⟩ := wof_nat ((r[0]'(by omega)).toNat % 32)
      have he := pbody_eq (s := s) (c := C) (m := (m : Int)) (p := p) (r := r) (by omega) rfl rfl rfl rfl rfl hp rfl
      rw [he] at h ⊢
      split at h
      · cases h
      · rename_i hg
        rw [if_neg hg]
        generalize hdn : (r.drop 2).drop _ = q at h ⊢
        have hq : q.length ≤ r.length := by rw [← hdn]; simp only [List.length_drop]; omega
        generalize pmade _ = base at h ⊢
        generalize (r[1]'(by omega)).toNat / 32 + 1 = g at h ⊢
        generalize (r[1]'(by omega)).toNat % 32 = t at h ⊢
        obtain ⟨us, q1, e1, hu⟩ : ∃ u r e, unpacksAny q (m : Int) (wof C) = (u, r, e) := ⟨_, _, _, rfl⟩
        by_cases he1 : e1 = 0
        · subst he1
          obtain ⟨u1, u2⟩ := unpacksAny_len hu
          obtain ⟨vs, q2, e2, hv⟩ : ∃ u r e, unpacksAny q1 (t : Int) (wclosest ((g + p : Nat) : Int)) = (u, r, e) := ⟨_, _, _, rfl⟩
          by_cases he2 : e2 = 0
          · subst he2
            obtain ⟨_, v2⟩ := unpacksAny_len hv
            rw [pbits_in hu hv] at h ⊢
            cases hpa : pall (wof C).toNat g p (m : Int).toNat (0, us) vs with
            | none => rw [pend_none hpa] at h; cases h
            | some st =>
              obtain ⟨a, lf⟩ := st
              have h3 := upall_len hpa
              dsimp only at h3
              rw [pend_some hpa] at h ⊢
              cases ho : omap (gnext s false base) lf with
              | none => rw [ho] at h; cases h
              | some xs =>
                have h4 := omap_len ho
                dsimp only
                omega
          · rw [pbits_cut2 hu hv he2] at h; cases h
        · rw [pbits_cut hu he1] at h; cases h
theorem gend_bd {s f : Bool} {x : Int} {us : List Nat} {q : List UInt8} (h : (gend s f x us q).2.2 = 0) : (gend s f x us q).1.length = us.length + 1 ∧ (gend s f x us q).2.1 = q := by
  unfold gend at h ⊢
  cases hw : gwalk s f x us with
  | none => rw [hw] at h; cases h
  | some ys => exact ⟨by dsimp only; rw [List.length_cons, gwalk_len hw], rfl⟩
theorem gtake_bd {b : List UInt8} {s : Bool} (h : (gtakeE b s).2.2 = 0) : 1 ≤ (gtakeE b s).1.length ∧ (gtakeE b s).1.length ≤ 512 ∧ (gtakeE b s).2.1.length ≤ b.length := by
  obtain ⟨K, C, M, r, x, hd⟩ : ∃ K C M r x, dlook b = (K, C, M, r, x) := ⟨_, _, _, _, _, rfl⟩
  have hbd := dlook_bd b
  rw [hd] at hbd
  dsimp only at hbd
  by_cases hk : x ≠ 0 ∨ K ≠ 3 ∨ M < 2
  · rw [gtakeE_head (by rw [hd]; exact hk)] at h; cases h
  · obtain rfl : x = 0 := Decidable.not_not.1 fun h2 => hk (.inl h2)
    obtain rfl : K = 3 := Decidable.not_not.1 fun h2 => hk (.inr (.inl h2))
    have hM2 : 2 ≤ M := Int.not_lt.1 fun h2 => hk (.inr (.inr h2))
    rw [gtakeE_in hd hM2] at h ⊢
    cases h1 : vtint r s with
    | none => rw [gbody_none h1] at h; cases h
    | some p =>
      obtain ⟨x0, r1⟩ := p
      cases h2 : vtint r1 true with
      | none => rw [gbody_none2 h1 h2] at h; cases h
      | some p2 =>
        obtain ⟨dd, r2⟩ := p2
        obtain ⟨u, f, o, hg⟩ : ∃ u f o, gdiff 0 dd = (u, f, o) := ⟨_, _, _, rfl⟩
        have b1 := (vtint_bd h1).2
        have b2 := (vtint_bd h2).2
        rw [gbody_some h1 h2 hg] at h ⊢
        cases o with
        | false => cases h
        | true =>
          have key : (if true = true then gmore s f x0 u C M r2 else ([], [], 2)) = gmore s f x0 u C M r2 := if_pos rfl
          try rw [key] at h
          try rw [key]
          by_cases hC : 0 < C
          · obtain ⟨m, hm⟩ := nat_of (show 0 ≤ M - 2 by omega)
            obtain ⟨us, q, e, hu⟩ : ∃ u q e, unpacksAny r2 (M - 2) (wof C) = (u, q, e) := ⟨_, _, _, rfl⟩
            by_cases he : e = 0
            · subst he
              rw [gmore_good hC hu] at h ⊢
              rw [hm] at hu
              obtain ⟨u1, u2⟩ := unpacksAny_len hu
              obtain ⟨e1, e2⟩ := gend_bd h
              rw [e1, e2, List.length_cons]
              omega
            · rw [gmore_bad hC hu he] at h; cases h
          · rw [gmore_zero hC] at h ⊢
            obtain ⟨e1, e2⟩ := gend_bd h
            rw [e1, e2, List.length_replicate]
            omega
theorem etake_bd {b : List UInt8} {s : Bool} (h : (etake b s).2.2.2 = 0) : 3 ≤ (etake b s).2.1 ∧ (etake b s).2.1 ≤ 10 ∧ (etake b s).2.2.1.length ≤ b.length := by
  unfold etake at h ⊢
  cases b with
  | nil => cases h
  | cons c r =>
    dsimp only at h ⊢
    split at h
    · cases h
    · rename_i h1
      rw [if_neg h1]
      split at h
      · cases h
      · rename_i h2
        rw [if_neg h2]
        split at h
        · cases h
        · rename_i h3
          rw [if_neg h3]
          cases hm : emade (bval (r.take (c.toNat / 8 + 1))) s with
          | none => rw [hm] at h; cases h
          | some x =>
            dsimp only
            rw [List.length_drop, List.length_cons]
            omega
theorem etake_no {b : List UInt8} {s : Bool} (h : (etake b s).2.2.2 ≠ 0) : etake b s = (0, 0, [], 2) := by
  unfold etake at h ⊢
  cases b with
  | nil => rfl
  | cons c r =>
    dsimp only at h ⊢
    split
    · rfl
    · rename_i h1
      rw [if_neg h1] at h
      split
      · rfl
      · rename_i h2
        rw [if_neg h2] at h
        split
        · rfl
        · rename_i h3
          rw [if_neg h3] at h
          cases hm : emade (bval (r.take (c.toNat / 8 + 1))) s with
          | none => rfl
          | some x => rw [hm] at h; exact absurd rfl h
/-- A run gives at least one number, and no more bytes than there were. -/
theorem uone_bd {b : List UInt8} {s : Bool} (h : (uone b s).2.2 = 0) : 1 ≤ (uone b s).1.length ∧ (uone b s).1.length ≤ 512 ∧ (uone b s).2.1.length ≤ b.length := by
  cases b with
  | nil => cases h
  | cons c r =>
    unfold uone at h ⊢
    dsimp only at h ⊢
    split at h
    · rename_i h1; rw [if_pos h1]; exact dtake_bd h
    · rename_i h1
      rw [if_neg h1]
      split at h
      · rename_i h2; rw [if_pos h2]; exact ptake_bd h
      · rename_i h2
        rw [if_neg h2]
        split at h
        · rename_i h3; rw [if_pos h3]; exact gtake_bd h
        · rename_i h3
          rw [if_neg h3]
          dsimp only at h ⊢
          have := etake_bd h
          rw [List.length_replicate]
          omega
theorem utakeN_bd {s : Bool} {many : Nat} : ∀ (k : Nat) (out : List Int) (rest : List UInt8), (utakeN s many k out rest).1.length ≤ many
  | 0, _, _ => by simp [utakeN, gbad]
  | k + 1, out, rest => by
    rw [utakeN]
    split
    · split
      · simp [gbad]
      · dsimp only; omega
    · split
      · simp [gbad]
      · exact utakeN_bd k _ _
theorem utakeE_len (b : List UInt8) (many : Int) (s : Bool) : (utakeE b many s).1.length ≤ 4096 := by
  unfold utakeE
  split
  · simp
  · exact Nat.le_trans (utakeN_bd _ _ _) (by omega)
end Go.Proofs.YtblpkmmhmdpkjaaGreatDoor

/- Contracts of layer 11's reference: same, shorter, Cut. -/







namespace Go.Proofs.YtblpkmmhmdpkjaaGreatDoor

open Go.RowKit

theorem ucut_same {l : List Int} (h : 3 ≤ usame l) : ucut l = min (usame l) 512 := by unfold ucut; rw [if_pos h]
theorem ucut_at {l : List Int} {n : Nat} (h : ¬ 3 ≤ usame l) (h1 : 1 ≤ n) (h2 : n < l.length) (h5 : n < 512) (hb : ∀ j, 1 ≤ j → j < n → ufind l j = false) (hn : ufind l n = true) : ucut l = n := by
  unfold ucut
  rw [if_neg h, List.find?_range'_eq_some.2 ⟨hn, List.mem_range'_1.2 (by omega), fun j hj hjn => by rw [hb j hj hjn]; rfl⟩]
  rfl
theorem ucut_all {l : List Int} (h : ¬ 3 ≤ usame l) (hb : ∀ j, 1 ≤ j → j < min l.length 512 → ufind l j = false) : ucut l = min l.length 512 := by
  unfold ucut
  rw [if_neg h, List.find?_range'_eq_none.2 fun j hj hjn => by rw [hb j hj (by omega)]; rfl]
  rfl
end Go.Proofs.YtblpkmmhmdpkjaaGreatDoor

/- Contracts of layer 11's reference: Run and Put. -/





namespace Go.Proofs.YtblpkmmhmdpkjaaGreatDoor

open Go.RowKit

/-- What was laid down, and what comes behind it. -/
def ucomb (out : List UInt8) (p : List UInt8 × Int) : List UInt8 × Int := if p.2 ≠ 0 then ([], p.2) else (out ++ p.1, 0)
theorem ucomb_done (out : List UInt8) (s : Bool) {k : Nat} {l : List Int} (h : l.length = 0) : ucomb out (uputN s k l) = (out, 0) := by
  cases k with
  | zero => simp [uputN, ucomb]
  | succ k => rw [uputN, if_pos h]; simp [ucomb]
theorem ucomb_bad (out : List UInt8) (s : Bool) {k : Nat} {l : List Int} (h : l.length ≠ 0) (he : (urunE (l.take (ucut l)) s).2 ≠ 0) : ucomb out (uputN s (k + 1) l) = ([], (urunE (l.take (ucut l)) s).2) := by
  rw [uputN, if_neg h, if_pos he]
  exact if_pos he
theorem ucomb_step (out : List UInt8) (s : Bool) {k : Nat} {l : List Int} (h : l.length ≠ 0) (he : (urunE (l.take (ucut l)) s).2 = 0) : ucomb out (uputN s (k + 1) l) = ucomb (out ++ (urunE (l.take (ucut l)) s).1) (uputN s k (l.drop (ucut l))) := by
  rw [uputN, if_neg h, if_neg (by rw [he]; simp)]
  unfold ucomb
  by_cases h2 : (uputN s k (l.drop (ucut l))).2 ≠ 0
  · rw [if_pos h2, if_pos h2, if_pos h2]
  · rw [if_neg h2, if_neg h2, if_neg (by simp)]
    simp
def lenOf (v : Value) : Nat := match v with | .slice _ n _ => n | _ => 0
theorem urun_len {l : List Int} {s : Bool} (hl : ∀ x ∈ l, inInt x) (h5 : l.length ≤ 512) : (urunE l s).1.length ≤ 5000 := by
  by_cases h2 : dplain l s = none ∨ l.length < 1 ∨ 512 < l.length
  · rw [urunE_no h2]; simp
  · have := (urun_back (r := []) hl (fun h3 => h2 (.inl h3)) (Nat.not_lt.1 fun h3 => h2 (.inr (.inl h3))) h5).2.2.2
    omega
def UPutRel (res : List UInt8 × Int) (s : Bool) (w : World) (lv ov : Value) (wr : World) : Prop :=
  ∃ (k : Nat) (rest : List Int) (out : List UInt8), rest.length ≤ k ∧ rest.length ≤ 4096 ∧ out.length + 10 * rest.length ≤ 50000 ∧ (∀ x ∈ rest, inInt x) ∧ IsV iv rest lv w ∧ ucomb out (uputN s k rest) = res ∧ wr.ownsRow w.heap.size 5 1 ov out.length (out.map bv) ∧ Below w.heap.size w wr
end Go.Proofs.YtblpkmmhmdpkjaaGreatDoor

/- Contracts of layer 11's reference: the run that bytes begin with, and Take. -/









namespace Go.Proofs.YtblpkmmhmdpkjaaGreatDoor

open Go.RowKit

theorem uone_kind {l : List UInt8} {s : Bool} {q : Nat} (h : 0 < l.length) (hq : q = l[0].toNat / 64) :
    uone l s = if q = 1 then dtakeE l s else if q = 2 then ptakeE l s else if q = 3 then gtakeE l s else (List.replicate (etake l s).2.1.toNat (etake l s).1, (etake l s).2.2.1, (etake l s).2.2.2) := by
  cases l with
  | nil => simp at h
  | cons b r =>
    subst hq
    rfl
theorem utakeN_end {s : Bool} {M f : Nat} {out : List Int} {rest : List UInt8} (h : M ≤ out.length) (hf : M + 1 ≤ out.length + f) : utakeN s M f out rest = if M < out.length then ([], [], 2) else (out, rest, 0) := by
  cases f with
  | zero => rw [utakeN, if_pos (by omega)]; rfl
  | succ f => rw [utakeN, if_pos h]; rfl
theorem utakeN_bad {s : Bool} {M f : Nat} {out : List Int} {rest : List UInt8} (h : out.length < M) (he : (uone rest s).2.2 ≠ 0) : utakeN s M (f + 1) out rest = ([], [], 2) := by rw [utakeN, if_neg (by omega), if_pos he]; rfl
theorem utakeN_step {s : Bool} {M f : Nat} {out : List Int} {rest : List UInt8} (h : out.length < M) (he : (uone rest s).2.2 = 0) : utakeN s M (f + 1) out rest = utakeN s M f (out ++ (uone rest s).1) (uone rest s).2.1 := by rw [utakeN, if_neg (by omega), if_neg (by rw [he]; simp)]
/-- Numbers and bytes, both in rows of the call's own, and an error. -/
def RetIOO (w : World) (p : List Int × List UInt8 × Int) (e : Ending) (w' : World) : Prop := ∃ u v, e = .returned (.tuple #[u, v, .int .i64 p.2.2]) ∧ OwnV iv 3 w p.1 u w' ∧ OwnB w p.2.1 v w' ∧ Below w.heap.size w w'
theorem RetIOO.nil {w w' : World} (n : Int) (hb : Below w.heap.size w w') : RetIOO w ([], [], n) (.returned (.tuple #[.slice none 0 0, .slice none 0 0, .int .i64 n])) w' := ⟨_, _, rfl, OwnV.nil _ _ _ _, OwnB.nil _ _, hb⟩
theorem RetIOO.io {w w' : World} {p : List Int × List UInt8 × Int} {e : Ending} (h : RetIOO w p e w') : RetIO w p e w' := by
  obtain ⟨u, v, h1, h2, h3, h4⟩ := h
  exact ⟨u, v, h1, h2.isV, h3, h4⟩
end Go.Proofs.YtblpkmmhmdpkjaaGreatDoor

/- Runs (layer 11): what a kind's Take answers speaks of the bytes that it takes, and of how many at most. -/



namespace Go.Proofs.YtblpkmmhmdpkjaaGreatDoor

/-- What was taken of bytes: a piece ahead, no longer than so; with anything else behind it the answer is the same. -/
def Took {β : Type} (n : Nat) (f : List UInt8 → β) (ans : List UInt8 → β) (l q : List UInt8) : Prop := ∃ a : List UInt8, l = a ++ q ∧ a.length ≤ n ∧ ∀ r, f (a ++ r) = ans r
theorem unpacksAny_loc {l q : List UInt8} {M W : Int} {us : List Nat} (h : unpacksAny l M W = (us, q, 0)) : Took (8 * M.toNat) (fun l => unpacksAny l M W) (fun r => (us, r, 0)) l q := by
  unfold unpacksAny at h
  split at h
  · rename_i hc
    unfold unpacks at h
    split at h
    · injection h with _ h; injection h with _ h; cases h
    · rename_i h1
      split at h
      · rename_i h2
        injection h with h3 h; injection h with h4 _
        have hW : W.toNat ≤ 64 := by omega
        have hs := bsize_eight (n := M.toNat) hW
        have htl : (l.take (bsize M.toNat W.toNat)).length = bsize M.toNat W.toNat := by rw [List.length_take]; omega
        refine ⟨l.take (bsize M.toNat W.toNat), by rw [← h4, List.take_append_drop], by omega, fun r => ?_⟩
        have e1 : (l.take (bsize M.toNat W.toNat) ++ r).take (bsize M.toNat W.toNat) = l.take (bsize M.toNat W.toNat) := by rw [List.take_append_of_le_length (by omega), List.take_of_length_le (by omega)]
        have e2 : (l.take (bsize M.toNat W.toNat) ++ r).drop (bsize M.toNat W.toNat) = r := by
          rw [List.drop_append_of_le_length (by omega), List.drop_of_length_le (by omega), List.nil_append]
        unfold unpacksAny
        dsimp only
        rw [if_pos hc]
        unfold unpacks
        rw [if_neg (by rw [List.length_append, htl]; omega), e1, e2, if_pos h2, h3]
      · injection h with _ h; injection h with _ h; cases h
  · injection h with _ h; injection h with _ h; cases h
theorem dlook_loc {l q : List UInt8} {k c m : Int} (h : dlook l = (k, c, m, q, 0)) : Took 2 dlook (fun r => (k, c, m, r, 0)) l q := by
  unfold dlook at h
  split at h
  · injection h with _ h; injection h with _ h; injection h with _ h; injection h with _ h; cases h
  · rename_i h1
    injection h with hk h; injection h with hc h; injection h with hm h; injection h with hq _
    have htl : (l.take 2).length = 2 := by rw [List.length_take]; omega
    refine ⟨l.take 2, by rw [← hq, List.take_append_drop], by omega, fun r => ?_⟩
    have e1 : (l.take 2 ++ r).take 2 = l.take 2 := by rw [List.take_append_of_le_length (by omega), List.take_of_length_le (by omega)]
    have e2 : (l.take 2 ++ r).drop 2 = r := by rw [List.drop_append_of_le_length (by omega), List.drop_of_length_le (by omega), List.nil_append]
    unfold dlook
    rw [if_neg (by rw [List.length_append, htl]; omega), e1, e2, hk, hc, hm]
theorem vtint_loc {l q : List UInt8} {s : Bool} {x : Int} (h : vtint l s = some (x, q)) : Took 10 (fun l => vtint l s) (fun r => some (x, r)) l q := by
  cases ht : vtake l with
  | none => rw [vtint_none s ht] at h; cases h
  | some p =>
    obtain ⟨u, r0⟩ := p
    obtain ⟨h1, h2⟩ := vtake_some ht
    have h10 := vput_len_10 h2
    cases s with
    | true =>
      rw [vtint_true ht] at h
      injection h with h; injection h with h3 h4
      subst h4
      refine ⟨vput u, h1, h10, fun r => ?_⟩
      dsimp only
      rw [vtint_true (vtake_put h2 r), h3]
    | false =>
      by_cases hu : (u : Int) < 9223372036854775808
      · rw [vtint_small ht hu] at h
        injection h with h; injection h with h3 h4
        subst h4
        refine ⟨vput u, h1, h10, fun r => ?_⟩
        dsimp only
        rw [vtint_small (vtake_put h2 r) hu, h3]
      · rw [vtint_big ht (by omega)] at h
        cases h
theorem Took.mono {β : Type} {m n : Nat} {f g : List UInt8 → β} {l q : List UInt8} (h : Took m f g l q) (hn : m ≤ n) : Took n f g l q := by
  obtain ⟨a, h1, h2, h3⟩ := h
  exact ⟨a, h1, by omega, h3⟩
theorem etake_loc {b : List UInt8} {s : Bool} (h : (etake b s).2.2.2 = 0) : Took 9 (fun b => etake b s) (fun r => ((etake b s).1, (etake b s).2.1, r, 0)) b (etake b s).2.2.1 := by
  cases b with
  | nil => cases h
  | cons c r =>
    obtain ⟨n, hn⟩ : ∃ n, n = c.toNat / 8 + 1 := ⟨_, rfl⟩
    unfold etake at h ⊢
    dsimp only at h ⊢
    rw [← hn] at h ⊢
    split at h
    · cases h
    · rename_i h1
      rw [if_neg h1]
      split at h
      · cases h
      · rename_i h2
        rw [if_neg h2]
        split at h
        · cases h
        · rename_i h3
          rw [if_neg h3]
          cases hm : emade (bval (r.take n)) s with
          | none => rw [hm] at h; cases h
          | some x =>
            dsimp only
            have htl : (r.take n).length = n := by rw [List.length_take]; omega
            refine ⟨c :: r.take n, by rw [List.cons_append, List.take_append_drop], by rw [List.length_cons]; omega, fun t => ?_⟩
            have e1 : (r.take n ++ t).take n = r.take n := by rw [List.take_append_of_le_length (by omega), List.take_of_length_le (by omega)]
            have e2 : (r.take n ++ t).drop n = t := by rw [List.drop_append_of_le_length (by omega), List.drop_of_length_le (by omega), List.nil_append]
            rw [List.cons_append]
            dsimp only
            rw [← hn, if_neg h1, if_neg (by rw [List.length_append, htl]; omega), e1, e2, if_neg h3, hm]
theorem dtake_loc {b : List UInt8} {s : Bool} (h : (dtakeE b s).2.2 = 0) : Took 4098 (fun b => dtakeE b s) (fun r => ((dtakeE b s).1, r, 0)) b (dtakeE b s).2.1 := by
  obtain ⟨K, C, M, r, x, hd⟩ : ∃ K C M r x, dlook b = (K, C, M, r, x) := ⟨_, _, _, _, _, rfl⟩
  have hbd := dlook_bd b
  rw [hd] at hbd
  dsimp only at hbd
  have e0 := h
  unfold dtakeE at h
  rw [hd] at h
  dsimp only at h
  split at h
  · cases h
  · rename_i hn
    have hx : x = 0 := Decidable.not_not.1 fun h2 => hn (.inl h2)
    have hK : K = 1 := Decidable.not_not.1 fun h2 => hn (.inr h2)
    subst hx hK
    obtain ⟨u, q, e, hu⟩ : ∃ u q e, unpacksAny r M (wof C) = (u, q, e) := ⟨_, _, _, rfl⟩
    rw [hu] at h
    dsimp only at h
    split at h
    · cases h
    · rename_i he
      have he0 : e = 0 := Decidable.not_not.1 he
      subst he0
      cases hm : dmade u s with
      | none => rw [hm] at h; cases h
      | some o =>
        obtain ⟨a1, p1, p2, p3⟩ := dlook_loc hd
        obtain ⟨a2, q1, q2, q3⟩ := unpacksAny_loc hu
        rw [dtakeE_ok hd hu hm]
        refine ⟨a1 ++ a2, by rw [List.append_assoc, ← q1, ← p1], by rw [List.length_append]; omega, fun t => ?_⟩
        dsimp only
        rw [List.append_assoc]
        exact dtakeE_ok (p3 _) (q3 t) hm
theorem ptake_loc {b : List UInt8} {s : Bool} (h : (ptakeE b s).2.2 = 0) : Took 4356 (fun b => ptakeE b s) (fun r => ((ptakeE b s).1, r, 0)) b (ptakeE b s).2.1 := by
  obtain ⟨K, C, M, r, x, hd⟩ : ∃ K C M r x, dlook b = (K, C, M, r, x) := ⟨_, _, _, _, _, rfl⟩
  have hbd := dlook_bd b
  rw [hd] at hbd
  dsimp only at hbd
  by_cases hk : x ≠ 0 ∨ K ≠ 2
  · rw [ptakeE_head (by rw [hd]; exact hk)] at h; cases h
  · obtain rfl : x = 0 := Decidable.not_not.1 fun h2 => hk (.inl h2)
    obtain rfl : K = 2 := Decidable.not_not.1 fun h2 => hk (.inr h2)
    have hM := dlook_many hd
    rw [ptakeE_in hd] at h ⊢
    obtain ⟨m, rfl⟩ := nat_of (show 0 ≤ M by omega)
    by_cases h2 : r.length < 2
    · rw [pbody_short h2] at h; cases h
    · obtain ⟨c0, r0, rfl⟩ : ∃ c r', r = c :: r' := by cases r with | nil => simp at h2 | cons c r' => exact ⟨c, r', rfl⟩
      obtain ⟨c1, r1, rfl⟩ : ∃ c r', r0 = c :: r' := by cases r0 with | nil => simp at h2 | cons c r' => exact ⟨c, r', rfl⟩
      obtain ⟨p, hp⟩ := wof_nat (c0.toNat % 32)
      have hfo : ∀ t : List UInt8, pbody s C (m : Int) (c0 :: c1 :: t) = if 64 < c1.toNat / 32 + 1 + p ∨ t.length < c0.toNat / 32 + 1 then gbad else pbits s (pmade (t.take (c0.toNat / 32 + 1))) C (m : Int) (c1.toNat / 32 + 1) p (c1.toNat % 32) (t.drop (c0.toNat / 32 + 1)) := by
        intro t
        unfold pbody
        rw [if_neg (by simp)]
        simp only [List.getD_cons_zero, List.getD_cons_succ, List.length_cons, hp, Int.toNat_natCast, List.drop_succ_cons, List.drop_zero, show t.length + 1 + 1 - 2 = t.length from by omega]
      rw [hfo] at h ⊢
      split at h
      · cases h
      · rename_i hg
        rw [if_neg hg]
        obtain ⟨n, hn⟩ : ∃ n, n = c0.toNat / 32 + 1 := ⟨_, rfl⟩
        have hn8 : n ≤ 8 := by have := c0.toNat_lt; omega
        have ht31 : c1.toNat % 32 ≤ 31 := by omega
        rw [← hn] at h hg ⊢
        have hrl : n ≤ r1.length := Nat.not_lt.1 fun h => hg (.inr h)
        have htl : (r1.take n).length = n := by rw [List.length_take]; omega
        obtain ⟨us, q1, e1, hu⟩ : ∃ u q e, unpacksAny (r1.drop n) (m : Int) (wof C) = (u, q, e) := ⟨_, _, _, rfl⟩
        by_cases he1 : e1 = 0
        · subst he1
          obtain ⟨vs, q2, e2, hv⟩ : ∃ u r e, unpacksAny q1 ((c1.toNat % 32 : Nat) : Int) (wclosest ((c1.toNat / 32 + 1 + p : Nat) : Int)) = (u, r, e) := ⟨_, _, _, rfl⟩
          by_cases he2 : e2 = 0
          · subst he2
            obtain ⟨a1, p1, p2, p3⟩ := dlook_loc hd
            obtain ⟨a2, u1, u2, u3⟩ := unpacksAny_loc hu
            obtain ⟨a3, v1, v2, v3⟩ := unpacksAny_loc hv
            rw [Int.toNat_natCast] at u2 v2
            rw [pbits_in hu hv] at h ⊢
            cases hpa : pall (wof C).toNat (c1.toNat / 32 + 1) p (m : Int).toNat (0, us) vs with
            | none => rw [pend_none hpa] at h; cases h
            | some st =>
              obtain ⟨a, lf⟩ := st
              rw [pend_some hpa] at h ⊢
              cases ho : omap (gnext s false (pmade (r1.take n))) lf with
              | none => rw [ho] at h; cases h
              | some xs =>
                dsimp only
                have hr1 : r1 = r1.take n ++ (a2 ++ (a3 ++ q2)) := by rw [← v1, ← u1, List.take_append_drop]
                refine ⟨a1 ++ (c0 :: c1 :: r1.take n) ++ a2 ++ a3, ?_, ?_, fun t => ?_⟩
                · rw [p1]
                  simp only [List.append_assoc, List.cons_append]
                  rw [← hr1]
                · simp only [List.length_append, List.length_cons, htl]
                  omega
                · have e1 : (a1 ++ (c0 :: c1 :: r1.take n) ++ a2 ++ a3) ++ t = a1 ++ (c0 :: c1 :: (r1.take n ++ (a2 ++ (a3 ++ t)))) := by simp only [List.append_assoc, List.cons_append]
                  have e2 : (r1.take n ++ (a2 ++ (a3 ++ t))).take n = r1.take n := by rw [List.take_append_of_le_length (by omega), List.take_of_length_le (by omega)]
                  have e3 : (r1.take n ++ (a2 ++ (a3 ++ t))).drop n = a2 ++ (a3 ++ t) := by rw [List.drop_append_of_le_length (by omega), List.drop_of_length_le (by omega), List.nil_append]
                  dsimp only
                  rw [e1, ptakeE_in (p3 _), hfo, ← hn, if_neg (by
                    rintro (h | h)
                    · exact hg (.inl h)
                    · rw [List.length_append, htl] at h; omega), e2, e3, pbits_in (u3 _) (v3 t), pend_some hpa, ho]
          · rw [pbits_cut2 hu hv he2] at h; cases h
        · rw [pbits_cut hu he1] at h; cases h
theorem gend_loc {s f : Bool} {x : Int} {us : List Nat} {q : List UInt8} (h : (gend s f x us q).2.2 = 0) : (gend s f x us q).2.1 = q ∧ ∀ r, gend s f x us r = ((gend s f x us q).1, r, 0) := by
  unfold gend at h ⊢
  cases hw : gwalk s f x us with
  | none => rw [hw] at h; cases h
  | some ys => exact ⟨rfl, fun r => rfl⟩
theorem gtake_loc {b : List UInt8} {s : Bool} (h : (gtakeE b s).2.2 = 0) : Took 4118 (fun b => gtakeE b s) (fun r => ((gtakeE b s).1, r, 0)) b (gtakeE b s).2.1 := by
  obtain ⟨K, C, M, r, x, hd⟩ : ∃ K C M r x, dlook b = (K, C, M, r, x) := ⟨_, _, _, _, _, rfl⟩
  have hbd := dlook_bd b
  rw [hd] at hbd
  dsimp only at hbd
  by_cases hk : x ≠ 0 ∨ K ≠ 3 ∨ M < 2
  · rw [gtakeE_head (by rw [hd]; exact hk)] at h; cases h
  · obtain rfl : x = 0 := Decidable.not_not.1 fun h2 => hk (.inl h2)
    obtain rfl : K = 3 := Decidable.not_not.1 fun h2 => hk (.inr (.inl h2))
    have hM2 : 2 ≤ M := Int.not_lt.1 fun h2 => hk (.inr (.inr h2))
    rw [gtakeE_in hd hM2] at h ⊢
    cases h1 : vtint r s with
    | none => rw [gbody_none h1] at h; cases h
    | some p =>
      obtain ⟨x0, r1⟩ := p
      cases h2 : vtint r1 true with
      | none => rw [gbody_none2 h1 h2] at h; cases h
      | some p2 =>
        obtain ⟨dd, r2⟩ := p2
        obtain ⟨u, f, o, hg⟩ : ∃ u f o, gdiff 0 dd = (u, f, o) := ⟨_, _, _, rfl⟩
        obtain ⟨a1, p1, p2, p3⟩ := dlook_loc hd
        obtain ⟨a2, s1, s2, s3⟩ := vtint_loc h1
        obtain ⟨a3, t1, t2, t3⟩ := vtint_loc h2
        dsimp only at s3 t3
        rw [gbody_some h1 h2 hg] at h ⊢
        cases o with
        | false => cases h
        | true =>
          have key : ∀ q, (if true = true then gmore s f x0 u C M q else ([], [], 2)) = gmore s f x0 u C M q := fun _ => if_pos rfl
          try rw [key] at h
          try rw [key]
          by_cases hC : 0 < C
          · obtain ⟨us, q, e, hu⟩ : ∃ us q e, unpacksAny r2 (M - 2) (wof C) = (us, q, e) := ⟨_, _, _, rfl⟩
            by_cases he : e = 0
            · subst he
              rw [gmore_good hC hu] at h ⊢
              obtain ⟨a4, u1, u2, u3⟩ := unpacksAny_loc hu
              obtain ⟨e1, e2⟩ := gend_loc h
              rw [e1]
              refine ⟨a1 ++ (a2 ++ (a3 ++ a4)), by rw [p1, s1, t1, u1]; simp only [List.append_assoc], by simp only [List.length_append]; omega, fun t => ?_⟩
              dsimp only
              simp only [List.append_assoc]
              rw [gtakeE_in (p3 _) hM2, gbody_some (s3 _) (t3 _) hg]
              try rw [key]
              rw [gmore_good hC (u3 t), e2]
            · rw [gmore_bad hC hu he] at h; cases h
          · rw [gmore_zero hC] at h ⊢
            obtain ⟨e1, e2⟩ := gend_loc h
            rw [e1]
            refine ⟨a1 ++ (a2 ++ a3), by rw [p1, s1, t1]; simp only [List.append_assoc], by simp only [List.length_append]; omega, fun t => ?_⟩
            dsimp only
            simp only [List.append_assoc]
            rw [gtakeE_in (p3 _) hM2, gbody_some (s3 _) (t3 _) hg]
            try rw [key]
            rw [gmore_zero hC, e2]
/-- Bytes cut behind what a run may need: the same numbers, and what is behind them is cut there, too. -/
theorem took_cut {β : Type} {n : Nat} {f : List UInt8 → β} {ans : List UInt8 → β} {l q : List UInt8} (h : Took n f ans l q) : f (l.take n) = ans ((l.take n).drop (l.length - q.length)) ∧ (l.take n).length - ((l.take n).drop (l.length - q.length)).length = l.length - q.length ∧ l.drop (l.length - q.length) = q ∧ f l = ans q := by
  obtain ⟨a, rfl, h2, h3⟩ := h
  have h4 : (a ++ q).length - q.length = a.length := by rw [List.length_append]; omega
  rw [h4]
  have e1 : (a ++ q).take n = a ++ q.take (n - a.length) := by rw [List.take_append, List.take_of_length_le h2]
  have e2 : (a ++ q.take (n - a.length)).drop a.length = q.take (n - a.length) := by simp
  rw [e1, e2]
  refine ⟨h3 _, ?_, by simp, h3 _⟩
  rw [List.length_append]
  omega
theorem took_more {β : Type} {n : Nat} {f : List UInt8 → β} {ans : List UInt8 → β} {l : List UInt8} {q : List UInt8} {k : Nat} (h : Took n f ans (l.take k) q) : f l = ans (q ++ l.drop k) ∧ Took n f ans l (q ++ l.drop k) := by
  obtain ⟨a, h1, h2, h3⟩ := h
  have e : l = a ++ (q ++ l.drop k) := by
    rw [← List.append_assoc, ← h1, List.take_append_drop]
  refine ⟨?_, a, e, h2, h3⟩
  have := h3 (q ++ l.drop k)
  rw [← e] at this
  exact this
theorem uone_nil (s : Bool) : uone [] s = ([], [], 2) := rfl
theorem uone_first {c : UInt8} {a r : List UInt8} {s : Bool} : uone (c :: a ++ r) s = if c.toNat / 64 = 1 then dtakeE (c :: a ++ r) s else if c.toNat / 64 = 2 then ptakeE (c :: a ++ r) s else if c.toNat / 64 = 3 then gtakeE (c :: a ++ r) s
    else (List.replicate (etake (c :: a ++ r) s).2.1.toNat (etake (c :: a ++ r) s).1, (etake (c :: a ++ r) s).2.2.1, (etake (c :: a ++ r) s).2.2.2) := rfl
theorem took_first {c : UInt8} {b q : List UInt8} {n : Nat} {f : List UInt8 → List Int × List UInt8 × Int} {xs : List Int} (h : Took n f (fun r => (xs, r, 0)) (c :: b) q) (h0 : (f []).2.2 ≠ 0) : ∃ a, b = a ++ q ∧ a.length + 1 ≤ n ∧ ∀ r, f (c :: a ++ r) = (xs, r, 0) := by
  obtain ⟨a, h1, h2, h3⟩ := h
  cases a with
  | nil =>
    have h4 := h3 []
    rw [List.append_nil] at h4
    rw [h4] at h0
    exact absurd rfl h0
  | cons d a =>
    rw [List.cons_append] at h1
    injection h1 with h4 h5
    subst h4
    exact ⟨a, h5, h2, h3⟩
theorem uone_loc {b : List UInt8} {s : Bool} (h : (uone b s).2.2 = 0) : Took 4356 (fun b => uone b s) (fun r => ((uone b s).1, r, 0)) b (uone b s).2.1 := by
  cases b with
  | nil => cases h
  | cons c b =>
    have hb := uone_first (c := c) (a := b) (r := []) (s := s)
    rw [List.append_nil] at hb
    by_cases h1 : c.toNat / 64 = 1
    · rw [if_pos h1] at hb
      rw [hb] at h ⊢
      obtain ⟨a, h4, h5, h6⟩ := took_first (dtake_loc h) (by unfold dtakeE dlook; simp)
      refine ⟨c :: a, by rw [List.cons_append, ← h4], by rw [List.length_cons]; omega, fun r => ?_⟩
      dsimp only
      rw [uone_first, if_pos h1, h6]
    · rw [if_neg h1] at hb
      by_cases h2 : c.toNat / 64 = 2
      · rw [if_pos h2] at hb
        rw [hb] at h ⊢
        obtain ⟨a, h4, h5, h6⟩ := took_first (ptake_loc h) (by unfold ptakeE dlook; simp [gbad])
        refine ⟨c :: a, by rw [List.cons_append, ← h4], by rw [List.length_cons]; omega, fun r => ?_⟩
        dsimp only
        rw [uone_first, if_neg h1, if_pos h2, h6]
      · rw [if_neg h2] at hb
        by_cases h3 : c.toNat / 64 = 3
        · rw [if_pos h3] at hb
          rw [hb] at h ⊢
          obtain ⟨a, h4, h5, h6⟩ := took_first (gtake_loc h) (by unfold gtakeE dlook; simp [gbad])
          refine ⟨c :: a, by rw [List.cons_append, ← h4], by rw [List.length_cons]; omega, fun r => ?_⟩
          dsimp only
          rw [uone_first, if_neg h1, if_neg h2, if_pos h3, h6]
        · rw [if_neg h3] at hb
          rw [hb] at h ⊢
          dsimp only at h ⊢
          obtain ⟨a, h4, h5, h6⟩ := etake_loc h
          cases a with
          | nil =>
            have h7 := h6 []
            dsimp only at h7
            rw [List.append_nil] at h7
            have h8 := congrArg (fun p => p.2.2.2) h7
            simp [etake] at h8
          | cons d a =>
            rw [List.cons_append] at h4
            injection h4 with h7 h8
            subst h7
            refine ⟨c :: a, by rw [List.cons_append, ← h8], by omega, fun r => ?_⟩
            have h9 := h6 r
            dsimp only at h9 ⊢
            rw [uone_first, if_neg h1, if_neg h2, if_neg h3, h9]
/-- A run, taken of no more bytes than a run may need. -/
theorem uone_shown {b sh : List UInt8} {s : Bool} (hs : sh = b.take 4356) : ((uone sh s).2.2 ≠ 0 → (uone b s).2.2 ≠ 0) ∧ ((uone sh s).2.2 = 0 → (uone sh s).2.1.length ≤ sh.length ∧ uone b s = ((uone sh s).1, b.drop (sh.length - (uone sh s).2.1.length), 0)) := by
  subst hs
  refine ⟨fun h h2 => ?_, fun h => ?_⟩
  · have h3 := (took_cut (uone_loc h2)).1
    try dsimp only at h3
    rw [h3] at h
    exact h rfl
  · obtain ⟨q, hq⟩ : ∃ q, q = (uone (b.take 4356) s).2.1 := ⟨_, rfl⟩
    have h1 := uone_loc h
    rw [← hq] at h1 ⊢
    obtain ⟨a, h3, h4, h5⟩ := h1
    obtain ⟨h6, -⟩ := took_more (n := 4356) (f := fun b => uone b s) (ans := fun r => ((uone (b.take 4356) s).1, r, 0)) (k := 4356) (l := b) ⟨a, h3, h4, h5⟩
    try dsimp only at h6
    have hl : (b.take 4356).length = a.length + q.length := by rw [h3, List.length_append]
    refine ⟨by omega, ?_⟩
    rw [h6, hl, Nat.add_sub_cancel]
    congr 2
    have e : b = a ++ (q ++ b.drop 4356) := by rw [← List.append_assoc, ← h3, List.take_append_drop]
    have e2 : b.drop a.length = (a ++ (q ++ b.drop 4356)).drop a.length := by rw [← e]
    rw [e2, List.drop_left]
end Go.Proofs.YtblpkmmhmdpkjaaGreatDoor

/- Runs (layer 11): the shortest of those that may be, or none of them; the shortest of the shortest; no kind refuses less than all of them. -/



namespace Go.Proofs.YtblpkmmhmdpkjaaGreatDoor

/-- The shortest so far, and one more that may be. -/
def ubest : Option (List UInt8) → List UInt8 × Int → Option (List UInt8)
  | none, p => if p.2 = 0 then some p.1 else none
  | some a, p => if p.2 = 0 ∧ p.1.length < a.length then some p.1 else some a
def uans : Option (List UInt8) → List UInt8 × Int
  | none => ([], 1)
  | some a => (a, 0)
theorem ubest_bad {o : Option (List UInt8)} {p : List UInt8 × Int} (h : p.2 ≠ 0) : ubest o p = o := by
  cases o with
  | none => exact if_neg h
  | some a => exact if_neg fun h2 => h h2.1
theorem ubest_none {p : List UInt8 × Int} (h : p.2 = 0) : ubest none p = some p.1 := if_pos h
theorem ubest_less {a : List UInt8} {p : List UInt8 × Int} (h : p.2 = 0) (h2 : p.1.length < a.length) : ubest (some a) p = some p.1 := if_pos ⟨h, h2⟩
theorem ubest_more {a : List UInt8} {p : List UInt8 × Int} (h2 : ¬ p.1.length < a.length) : ubest (some a) p = some a := if_neg fun h => h2 h.2
theorem ubest_step (o x : Option (List UInt8)) (c : List UInt8 × Int) : ubest o (uans (ubest x c)) = ubest (ubest o (uans x)) c := by
  by_cases hc : c.2 = 0
  · cases x with
    | none =>
      rw [ubest_none hc, ubest_bad (o := o) (p := uans none) (by simp [uans])]
      have e : uans (some c.1) = c := by rw [uans, ← hc]
      rw [e]
    | some x =>
      have e : uans (some c.1) = c := by rw [uans, ← hc]
      by_cases h1 : c.1.length < x.length
      · rw [ubest_less hc h1, e]
        cases o with
        | none => rw [ubest_none (p := uans (some x)) rfl, ubest_none hc, ubest_less (a := (uans (some x)).1) hc h1]
        | some o =>
          by_cases h2 : x.length < o.length
          · rw [ubest_less (p := uans (some x)) rfl h2, ubest_less hc (by omega), ubest_less (a := (uans (some x)).1) hc h1]
          · rw [ubest_more (p := uans (some x)) h2]
      · rw [ubest_more h1]
        cases o with
        | none => rw [ubest_none (p := uans (some x)) rfl, ubest_more (a := (uans (some x)).1) h1]
        | some o =>
          by_cases h2 : x.length < o.length
          · rw [ubest_less (p := uans (some x)) rfl h2, ubest_more (a := (uans (some x)).1) h1]
          · rw [ubest_more (p := uans (some x)) h2, ubest_more (by omega)]
  · rw [ubest_bad (o := x) hc, ubest_bad hc]
theorem ubest_fold (L : List (List UInt8 × Int)) : ∀ (o x : Option (List UInt8)), ubest o (uans (L.foldl ubest x)) = L.foldl ubest (ubest o (uans x)) := by
  induction L with
  | nil => intro o x; rfl
  | cons c L ih =>
    intro o x
    rw [List.foldl_cons, List.foldl_cons, ih, ubest_step]
theorem ubest_all_bad {L : List (List UInt8 × Int)} (h : ∀ p ∈ L, p.2 ≠ 0) (o : Option (List UInt8)) : L.foldl ubest o = o := by
  induction L generalizing o with
  | nil => rfl
  | cons c L ih => rw [List.foldl_cons, ubest_bad (h c List.mem_cons_self), ih fun p hp => h p (List.mem_cons_of_mem _ hp)]
theorem ubest_some {L : List (List UInt8 × Int)} : ∀ {o : Option (List UInt8)}, ((∃ a, o = some a) ∨ ∃ p ∈ L, p.2 = 0) → ∃ a, L.foldl ubest o = some a := by
  induction L with
  | nil =>
    rintro o (h | ⟨p, hp, _⟩)
    · exact h
    · cases hp
  | cons c L ih =>
    rintro o h
    rw [List.foldl_cons]
    refine ih ?_
    rcases h with ⟨a, rfl⟩ | ⟨p, hp, h0⟩
    · left; unfold ubest; dsimp only; split <;> exact ⟨_, rfl⟩
    · rcases List.mem_cons.1 hp with rfl | hp
      · left
        cases o with
        | none => exact ⟨_, ubest_none h0⟩
        | some a => unfold ubest; dsimp only; split <;> exact ⟨_, rfl⟩
      · exact .inr ⟨p, hp, h0⟩
theorem ubest_shorter {L : List (List UInt8 × Int)} : ∀ {o : Option (List UInt8)}, (∀ p ∈ L, p.2 = 0 → p.1.length ≠ 0) → (∀ a, o = some a → a.length ≠ 0) → L.foldl ushorter (o.getD []) = (L.foldl ubest o).getD [] := by
  induction L with
  | nil => intro o _ _; rfl
  | cons c L ih =>
    intro o h1 h2
    rw [List.foldl_cons, List.foldl_cons]
    have hc := h1 c List.mem_cons_self
    have e : ushorter (o.getD []) c = (ubest o c).getD [] := by
      unfold ushorter
      cases o with
      | none =>
        by_cases h : c.2 = 0
        · rw [ubest_none h, if_pos ⟨h, .inl rfl⟩]; rfl
        · rw [ubest_bad h, if_neg fun h3 => h h3.1]
      | some a =>
        have ha := h2 a rfl
        by_cases h : c.2 = 0 ∧ c.1.length < a.length
        · rw [ubest_less h.1 h.2, if_pos ⟨h.1, .inr h.2⟩]; rfl
        · rw [if_neg fun h3 => h ⟨h3.1, h3.2.resolve_left ha⟩]
          by_cases h4 : c.2 = 0
          · rw [ubest_more fun h5 => h ⟨h4, h5⟩]
          · rw [ubest_bad h4]
    rw [e]
    refine ih (fun p hp => h1 p (List.mem_cons_of_mem _ hp)) fun a ha => ?_
    cases o with
    | none =>
      by_cases h : c.2 = 0
      · rw [ubest_none h] at ha; injection ha with ha; rw [← ha]; exact hc h
      · rw [ubest_bad h] at ha; cases ha
    | some b =>
      by_cases h : c.2 = 0 ∧ c.1.length < b.length
      · rw [ubest_less h.1 h.2] at ha; injection ha with ha; rw [← ha]; exact hc h.1
      · have e2 : ubest (some b) c = some b := if_neg h
        rw [e2] at ha
        exact h2 a ha
theorem pair_ok {p : List UInt8 × Int} (h : p.2 = 0) : p = (p.1, 0) := by rw [← h]
/-- What the kinds lay down. -/
def urep (l : List Int) (s : Bool) : List UInt8 × Int := if l.length = 0 ∨ usame l < l.length then ([], 1) else eput (l.headD 0) l.length s
def upats (l : List Int) (s : Bool) : List (List UInt8 × Int) := (List.range 31).map fun c : Nat => pputE l (wof (c : Int)) s
def upat (l : List Int) (s : Bool) : List UInt8 × Int := uans ((upats l s).foldl ubest none)
def ukinds (l : List Int) (s : Bool) : List (List UInt8 × Int) := [urep l s, dputE l s, gputE l s, upat l s]
theorem ulen_rep {l : List Int} {s : Bool} (h : (urep l s).2 = 0) : (urep l s).1.length ≠ 0 := by
  unfold urep at h ⊢
  split
  · rename_i h1; rw [if_pos h1] at h; cases h
  · rename_i h1
    rw [if_neg h1] at h
    obtain ⟨_, _, u, _, hb⟩ := eputE_cases (b := (eput (l.headD 0) l.length s).1) (pair_ok h)
    rw [hb, elay_len]
    omega
theorem ulen_eput {x t : Int} {s : Bool} (h : (eput x t s).2 = 0) : (eput x t s).1.length ≠ 0 := by
  obtain ⟨_, _, u, _, hb⟩ := eputE_cases (b := (eput x t s).1) (pair_ok h)
  rw [hb, elay_len]
  omega
theorem ulen_dput {l : List Int} {s : Bool} (h : (dputE l s).2 = 0) : (dputE l s).1.length ≠ 0 := by
  obtain ⟨_, _, u, _, hb⟩ := dputE_cases (b := (dputE l s).1) (pair_ok h)
  rw [hb]
  unfold dlay
  rw [List.length_append, dheadN_len]
  omega
theorem ulen_gput {l : List Int} {s : Bool} (h : (gputE l s).2 = 0) : (gputE l s).1.length ≠ 0 := by
  obtain ⟨_, _, _, u, _, hb⟩ := gputE_cases (b := (gputE l s).1) (pair_ok h)
  rw [hb]
  unfold glay
  simp only [List.length_append, dheadN_len]
  omega
theorem ulen_pput {l : List Int} {W : Int} {s : Bool} (h : (pputE l W s).2 = 0) : (pputE l W s).1.length ≠ 0 := by
  obtain ⟨us, _, _, _, _, _, _, _, _, hb⟩ := pputE_ok (b := (pputE l W s).1) (pair_ok h)
  rw [hb]
  unfold play
  simp only [List.length_append, dheadN_len]
  omega
theorem ulen_cands {l : List Int} {s : Bool} : ∀ p ∈ ucands l s, p.2 = 0 → p.1.length ≠ 0 := by
  intro p hp
  unfold ucands ucands0 at hp
  simp only [List.mem_append, List.mem_cons, List.mem_map, List.mem_range, List.not_mem_nil, or_false] at hp
  rcases hp with (hp | rfl | rfl) | ⟨c, hc, rfl⟩
  · split at hp
    · rw [List.mem_singleton] at hp
      subst hp
      exact ulen_eput
    · cases hp
  · exact ulen_dput
  · exact ulen_gput
  · exact ulen_pput
theorem upats_len {l : List Int} {s : Bool} : ∀ p ∈ upats l s, p.2 = 0 → p.1.length ≠ 0 := by
  intro p hp
  unfold upats at hp
  simp only [List.mem_map, List.mem_range] at hp
  obtain ⟨c, hc, rfl⟩ := hp
  exact ulen_pput
theorem upat_len {l : List Int} {s : Bool} (h : (upat l s).2 = 0) : (upat l s).1.length ≠ 0 := by
  have h1 := ubest_shorter (o := none) (upats_len (l := l) (s := s)) (fun a h => by cases h)
  unfold upat at h ⊢
  cases ho : (upats l s).foldl ubest none with
  | none => rw [ho] at h; cases h
  | some a =>
    have key : ∀ (L : List (List UInt8 × Int)) (o : Option (List UInt8)), (∀ p ∈ L, p.2 = 0 → p.1.length ≠ 0) → (∀ a, o = some a → a.length ≠ 0) → ∀ a, L.foldl ubest o = some a → a.length ≠ 0 := by
      intro L
      induction L with
      | nil => intro o _ h a ha; exact h a ha
      | cons c L ih =>
        intro o h1 h2 a ha
        rw [List.foldl_cons] at ha
        refine ih _ (fun p hp => h1 p (List.mem_cons_of_mem _ hp)) (fun b hb => ?_) a ha
        have hc := h1 c List.mem_cons_self
        cases o with
        | none =>
          by_cases h : c.2 = 0
          · rw [ubest_none h] at hb; injection hb with hb; rw [← hb]; exact hc h
          · rw [ubest_bad h] at hb; cases hb
        | some d =>
          by_cases h : c.2 = 0 ∧ c.1.length < d.length
          · rw [ubest_less h.1 h.2] at hb; injection hb with hb; rw [← hb]; exact hc h.1
          · rw [show ubest (some d) c = some d from if_neg h] at hb
            exact h2 b hb
    exact key _ _ upats_len (fun a h => by cases h) a ho
theorem ukinds_len {l : List Int} {s : Bool} : ∀ p ∈ ukinds l s, p.2 = 0 → p.1.length ≠ 0 := by
  intro p hp
  unfold ukinds at hp
  simp only [List.mem_cons, List.not_mem_nil, or_false] at hp
  rcases hp with rfl | rfl | rfl | rfl
  · exact ulen_rep
  · exact ulen_dput
  · exact ulen_gput
  · exact upat_len
theorem usame_rep {l : List Int} (h : ¬ (l.length = 0 ∨ usame l < l.length)) : l = List.replicate l.length (l.headD 0) := by
  cases l with
  | nil => exact absurd (.inl rfl) h
  | cons x r =>
    have h1 := usame_take (x := x) (r := r) (k := (x :: r).length) (Nat.not_lt.1 fun h2 => h (.inr h2))
    rw [List.take_of_length_le (Nat.le_refl _)] at h1
    rw [List.headD_cons]
    exact h1
theorem ukinds_refuse {l : List Int} {s : Bool} (h : dplain l s = none ∨ l.length < 1 ∨ 512 < l.length) : ∀ p ∈ ukinds l s, p.2 ≠ 0 := by
  intro p hp h0
  unfold ukinds at hp
  simp only [List.mem_cons, List.not_mem_nil, or_false] at hp
  rcases hp with rfl | rfl | rfl | rfl
  · unfold urep at h0
    split at h0
    · cases h0
    · rename_i hn
      obtain ⟨t3, t10, u, hu, _⟩ := eputE_cases (b := (eput (l.headD 0) l.length s).1) (pair_ok h0)
      rcases h with h | h | h
      · have hr := usame_rep hn
        have : ∀ n : Nat, dplain (List.replicate n (l.headD 0)) s ≠ none := by
          intro n
          induction n with
          | zero => intro h; cases h
          | succ n ih =>
            unfold dplain at ih ⊢
            rw [List.replicate_succ, omap, hu]
            cases ho : omap (eplain · s) (List.replicate n (l.headD 0)) with
            | none => exact absurd ho ih
            | some ys => intro h; cases h
        exact this l.length (by rw [← hr]; exact h)
      · omega
      · omega
  · obtain ⟨h1, h2, u, hu, _⟩ := dputE_cases (b := (dputE l s).1) (pair_ok h0)
    rcases h with h | h | h
    · rw [h] at hu; cases hu
    · omega
    · omega
  · obtain ⟨h1, h2, h3, _⟩ := gputE_cases (b := (gputE l s).1) (pair_ok h0)
    rcases h with h | h | h
    · exact h1 h
    · omega
    · omega
  · have : ∀ p ∈ upats l s, p.2 ≠ 0 := by
      intro p hp
      unfold upats at hp
      simp only [List.mem_map, List.mem_range] at hp
      obtain ⟨c, hc, rfl⟩ := hp
      unfold pputE
      rw [if_pos (by rcases h with h | h | h; exact .inl h; exact .inr (.inl h); exact .inr (.inr (.inl h)))]
      simp
    unfold upat at h0
    rw [ubest_all_bad this] at h0
    cases h0
/-- The shortest of the kinds is what Run answers. -/
theorem urun_kinds (l : List Int) (s : Bool) : urunE l s = uans ((ukinds l s).foldl ubest none) := by
  by_cases h : dplain l s = none ∨ l.length < 1 ∨ 512 < l.length
  · rw [ubest_all_bad (ukinds_refuse h)]
    unfold urunE
    rw [if_pos h]
    rfl
  · have e1 : (ukinds l s).foldl ubest none = (ucands l s).foldl ubest none := by
      have e2 : ubest none (urep l s) = ((if usame l = l.length then [eput (l.headD 0) l.length s] else []) : List (List UInt8 × Int)).foldl ubest none := by
        have h1 := usame_le l
        unfold urep
        by_cases h2 : usame l = l.length
        · rw [if_pos h2, if_neg (by
            rintro (h3 | h3)
            · exact h (.inr (.inl (by omega)))
            · omega)]
          rfl
        · rw [if_neg h2, if_pos (.inr (by omega))]
          rfl
      unfold ukinds ucands ucands0
      rw [List.foldl_append, List.foldl_append, ← e2]
      simp only [List.foldl_cons, List.foldl_nil]
      unfold upat
      rw [ubest_fold, ubest_bad (p := uans none) (by simp [uans])]
      rfl
    have h1 : 1 ≤ l.length := Nat.not_lt.1 fun h2 => h (.inr (.inl h2))
    have h5 : l.length ≤ 512 := Nat.not_lt.1 fun h2 => h (.inr (.inr h2))
    have hp : dplain l s ≠ none := fun h2 => h (.inl h2)
    obtain ⟨u, hu, hd⟩ := dputE_in hp h1 h5
    obtain ⟨a, ha⟩ := ubest_some (L := ucands l s) (o := none) (.inr ⟨_, dput_mem l s, by rw [hd]⟩)
    have h3 := ubest_shorter (o := none) (ulen_cands (l := l) (s := s)) (fun a h => by cases h)
    rw [e1, ha, urunE_in hp h1 h5]
    rw [ha] at h3
    rw [show ([] : List UInt8) = (none : Option (List UInt8)).getD [] from rfl, h3]
    rfl
end Go.Proofs.YtblpkmmhmdpkjaaGreatDoor

/- rle's own contracts: slices.Repeat at numbers (as XTRep, of cells of one). -/





namespace Go.Proofs.YtblpkmmhmdpkjaaGreatDoor

open Go.RowKit

def ic (x : Int) : List Value := [iv x]
theorem ic_len (x : Int) : (ic x).length = 1 := rfl
theorem ic_one (x : Int) : ∀ u ∈ ic x, u.oneCell' = true := by
  intro u hu
  unfold ic at hu
  simp at hu
  subst hu
  rfl
theorem ics_one (l : List Int) : ∀ u ∈ l.flatMap ic, u.oneCell' = true := by
  intro u hu
  obtain ⟨x, _, hx⟩ := List.mem_flatMap.1 hu
  exact ic_one x u hx
theorem iflat_len (l : List Int) : (l.flatMap ic).length = l.length * 1 := flat_len ic_len l
theorem ics_map (l : List Int) : l.flatMap ic = l.map iv := by
  induction l with
  | nil => rfl
  | cons x l ih => rw [List.flatMap_cons, ih]; rfl
theorem Tryz.infoIW : (Tryz.prog.info? 3).map (fun i => (i.zero, i.size, i.bytes)) = some (some (iv 0), 1, 8) := by kernel_rfl
theorem elemIW : ElemW Tryz.prog 47 3 8 1 (iv 0) := by
  obtain ⟨i0, hi, hz0, hz1, hz2⟩ := info_parts Tryz.infoIW
  exact ⟨Tryz.underlying47, rfl, by omega, i0, hi, hz0, hz1, hz2⟩
def xreps (k : Nat) (d : Int) : List Value := (List.replicate k d).flatMap ic
theorem xreps_len (k : Nat) (d : Int) : (xreps k d).length = k * 1 := by unfold xreps; rw [iflat_len, List.length_replicate]
theorem xreps_add (k j : Nat) (d : Int) : xreps (k + j) d = xreps k d ++ xreps j d := by unfold xreps; rw [← List.flatMap_append, List.replicate_append_replicate]
theorem xreps_one (k : Nat) (d : Int) : ∀ u ∈ xreps k d, u.oneCell' = true := ics_one _
theorem xreps_take {k j : Nat} (d : Int) (h : j ≤ k) (r : List Value) : (xreps k d ++ r).take (j * 1) = xreps j d := by
  obtain ⟨i, rfl⟩ : ∃ i, k = j + i := ⟨k - j, by omega⟩
  rw [xreps_add, List.append_assoc, List.take_append_of_le_length (by rw [xreps_len]; exact Nat.le_refl _), List.take_of_length_le (by rw [xreps_len]; exact Nat.le_refl _)]
/-- A copy of what stands in front behind it. -/
theorem xreps_splice {k j i e : Nat} (d : Int) (r : List Value) (hk : k ≤ i) (_hj : j ≤ i) (he : i * 1 + e = k * 1 + j * 1) :
    (xreps i d ++ r).take (k * 1) ++ xreps j d ++ (xreps i d ++ r).drop (k * 1 + (xreps j d).length) = xreps (k + j) d ++ r.drop e := by
  rw [xreps_take d hk r, ← xreps_add, xreps_len, List.drop_append, xreps_len, List.drop_of_length_le (by rw [xreps_len]; omega), List.nil_append, show k * 1 + j * 1 - i * 1 = e by omega]
theorem xrow_cells {w : World} {g : Nat} {t : TypeId} {cs : List Value} (h : Row w g t cs) : ∀ j v, cs[j]? = some v → w.cell? ((⟨g, 0, none⟩ : Addr).add j) = some v := by
  intro j v hj
  have h1 := h.cell j
  rw [hj] at h1
  rw [← h1]
  congr 1
  unfold Addr.add
  split <;> simp_all
def XRpRel (d : Int) (g m : Nat) (w : World) (n : Value) (wr : World) : Prop := ∃ (k : Nat) (rest : List Value), 1 ≤ k ∧ k ≤ m ∧ n = .int .i64 (k : Int) ∧ rest.length = (m - k) * 1 ∧ Row wr g 3 (xreps k d ++ rest) ∧ Below w.heap.size w wr
theorem xslice_from {w : World} {g k m : Nat} (h : k < m) : (Instr.sliceAt 47 (.slice (some ⟨g, 0, none⟩) m m) (some (.int .i64 (k : Int))) none none).run Tryz.prog w = .ok (.slice (some ⟨g, k * 1, none⟩) (m - k) (m - k)) w := by
  have ht := elemIW.under
  have he : Tryz.prog.elem 47 = 3 := by simp [Program.elem, ht]
  rw [run_sliceAt_slice w _ _ _ _ _ (by rw [he]; exact ht), run_slice_l w _ _ m m (by rw [he]; exact ht) .i64 (k : Int) (by omega) (by omega), he, elemIW.size_]
  have hne : ¬ m = k := by omega
  simp [sliced, Addr.add, hne]
  intro h; omega
theorem xslice_upto {w : World} {g k m : Nat} (h : k ≤ m) : (Instr.sliceAt 47 (.slice (some ⟨g, 0, none⟩) m m) none (some (.int .i64 (k : Int))) none).run Tryz.prog w = .ok (.slice (some ⟨g, 0, none⟩) k m) w := by
  have ht := elemIW.under
  have he : Tryz.prog.elem 47 = 3 := by simp [Program.elem, ht]
  rw [run_sliceAt_slice w _ _ _ _ _ (by rw [he]; exact ht), run_slice_h w _ _ m m (by rw [he]; exact ht) .i64 (k : Int) (by omega) (by omega), he, elemIW.size_]
  simp [sliced, Addr.add]
set_option maxHeartbeats 4000000 in
set_option maxRecDepth 100000 in
theorem xrepeat_any (d : Int) (g1 c m : Nat) (w : World) (hr : Row w g1 3 (ic d)) (h1 : 1 ≤ m) (hm : m ≤ 1000) :
    Calls Tryz.prog 135 #[.slice (some ⟨g1, 0, none⟩) 1 c, .int .i64 (m : Int)] w
      fun e w' => ∃ g, e = .returned (.slice (some ⟨g, 0, none⟩) m m) ∧ w.heap.size ≤ g ∧ Row w' g 3 (xreps m d) ∧ Below w.heap.size w w' := by
  have HM := Lib.hid (Tryz.bits_Mul 1 m (by omega) (by omega) w)
  rw [Nat.one_mul, Nat.div_eq_of_lt (by omega), Nat.mod_eq_of_lt (by omega)] at HM
  have HR := Lib.hid hr
  have hmi : IntKind.u64.wrap (m : Int) = (m : Int) := by rw [IntKind.wrap_u64]; omega
  have hmj : IntKind.i64.wrap (m : Int) = (m : Int) := by rw [IntKind.wrap_i64]; omega
  have hm1 : 1 ≤ m := h1
  have hc1 : decide ((9223372036854775807 : Int) < (m : Int)) = false := decide_eq_false (by omega)
  go_enter Tryz.func135, Tryz.ntmps135
  go_wp2_with (first | (go_at_call 170; refine HM.out.mono ?_; rintro e w' ⟨rfl, hw'⟩; rw [hw']) | (refine wpList_makeW elemIW (ic 0) rfl rfl _ _ rfl _ _ _ _ m w w.heap.size rfl rfl rfl rfl (by omega) (by omega) (Below.refl _ _) (Nat.le_refl _) ?_))
  intro w2 hr2 hb2
  have HR2 := Lib.hid (HR.out.below hb2 HR.out.lt)
  have HNEW := Lib.hid (show ((List.replicate m (ic 0)).flatten).take 0 ++ ic d ++ ((List.replicate m (ic 0)).flatten).drop (0 + (ic d).length) = xreps 1 d ++ ((List.replicate m (ic 0)).flatten).drop 1 by
    rw [List.take_zero, List.nil_append, Nat.zero_add, ic_len]; rfl)
  have hlen : ((List.replicate m (ic 0)).flatten).length = m * 1 := by rw [← flat_replicate (f := ic) m 0, iflat_len, List.length_replicate]
  have HLEN := Lib.hid hlen
  clear hlen hr h1
  go_wp2_with (refine wpList_copyW elemIW rfl _ _ rfl w.heap.size 0 m m ⟨g1, 0, none⟩ 1 c _ (ic d) _ HNEW.out 1 w.heap.size w rfl rfl hr2 (Nat.min_eq_left (by omega)) rfl (xrow_cells HR2.out) (ic_one d) (by rw [HLEN.out, ic_len]; omega) hb2 (Nat.le_refl _) ?_)
  intro w3 hr3 hb3
  have HS := Lib.hid (show XRpRel d w.heap.size m w (.int .i64 1) w3 from ⟨1, _, Nat.le_refl _, by omega, rfl, by simp only [List.length_tail, HLEN.out]; omega, hr3, hb3⟩)
  clear hr2 hb2 hr3 hb3
  go_wp2
  go_loopw [8] (XRpRel d w.heap.size m w) (fun i _ => m - (intOf i).toNat)
  case atStart => exact HS.out
  case round =>
    obtain ⟨k, rest, hk1, hkm, rfl, hrl, hrow, hbw⟩ := hrel
    have HRL := Lib.hid hrl
    have HROW := Lib.hid hrow
    have HB := Lib.hid hbw
    clear hrl hrow hbw
    by_cases hlt : k < m
    · have hlti : (k : Int) < (m : Int) := by omega
      obtain ⟨j, hj⟩ : ∃ j, j = min k (m - k) := ⟨_, rfl⟩
      have hj1 : 1 ≤ j := by omega
      have hjk : j ≤ k := by omega
      have hjm : k + j ≤ m := by omega
      have HJ := Lib.hid hj
      clear hj
      obtain ⟨cur, hcur⟩ : ∃ cur, cur = xreps k d ++ rest := ⟨_, rfl⟩
      obtain ⟨new, hnew⟩ : ∃ new, new = xreps (k + j) d ++ rest.drop (j * 1) := ⟨_, rfl⟩
      rw [← hcur] at HROW
      have HSC := Lib.hid (show cur.take (k * 1) ++ xreps j d ++ cur.drop (k * 1 + (xreps j d).length) = new by rw [hcur, hnew]; exact xreps_splice d rest (Nat.le_refl _) hjk rfl)
      have HSN := Lib.hid (show new.take (k * 1) ++ xreps j d ++ new.drop (k * 1 + (xreps j d).length) = new by
        rw [hnew, xreps_splice (e := 0) d (rest.drop (j * 1)) (by omega) (by omega) (by omega), List.drop_zero])
      have HTC := Lib.hid (show cur.take (j * 1) = xreps j d by rw [hcur, xreps_take d hjk])
      have HTN := Lib.hid (show new.take (j * 1) = xreps j d by rw [hnew, xreps_take d (by omega)])
      have HLC := Lib.hid (show cur.length = m * 1 by rw [hcur, List.length_append, xreps_len, HRL.out]; omega)
      have HLN := Lib.hid (show new.length = m * 1 by rw [hnew, List.length_append, xreps_len, List.length_drop, HRL.out]; omega)
      have HNEW2 := Lib.hid hnew
      clear hcur hnew
      go_wp2
      refine wp_region_listR (turn_later w.heap.size w.heap.size 3 cur new) [.is (.int .i64 (k : Int)), .is (.slice (some ⟨w.heap.size, 0, none⟩) m m), .is (.int .i64 (k : Int)), .is (.slice (some ⟨w.heap.size, k * 1, none⟩) (m - k) (m - k)), .is (.slice (some ⟨w.heap.size, 0, none⟩) m m), .is (.int .i64 (k : Int)), .is (.slice (some ⟨w.heap.size, 0, none⟩) k m),
        .of (fun v W => v = .int .i64 (j : Int) ∧ Row W w.heap.size 3 new) (fun v W W' h hk => ⟨h.1, hk.2.2 h.2⟩), .is (.int .i64 ((k : Int) + (j : Int))), .is (.int .i64 ((k : Int) + (j : Int)))]
        [some 38, some 39, some 40, some 41, some 42, some 43, some 44, some 45, some 46, some 8] (by kernel_rfl) (by kernel_rfl) (by kernel_rfl) (by kernel_rfl) rfl ⟨?_, ?_, ?_, ?_, ?_, ?_, ?_, ?_, ?_, ?_, trivial⟩ ?_
      · intro ρ vs W1 hb1 H
        exact gives_move rfl (H.old 8 _ (by kernel_rfl) rfl) ⟨upd_at _ _ _, (turn_later _ _ _ _ _).refl _⟩
      · intro ρ vs W1 hb1 H
        exact gives_move rfl (H.old 7 _ (by kernel_rfl) rfl) ⟨upd_at _ _ _, (turn_later _ _ _ _ _).refl _⟩
      · intro ρ vs W1 hb1 H
        exact gives_move rfl (H.old 8 _ (by kernel_rfl) rfl) ⟨upd_at _ _ _, (turn_later _ _ _ _ _).refl _⟩
      · intro ρ vs W1 hb1 H
        have e1 : ρ (.tmp 40) = .int .i64 (k : Int) := H.holds 40 2 (by kernel_rfl)
        exact gives_slice rfl (H.holds 39 1 (by kernel_rfl)) (by simp only [Option.map_some]; rw [e1]) rfl rfl (xslice_from hlt) ⟨upd_at _ _ _, (turn_later _ _ _ _ _).refl _⟩
      · intro ρ vs W1 hb1 H
        exact gives_move rfl (H.old 7 _ (by kernel_rfl) rfl) ⟨upd_at _ _ _, (turn_later _ _ _ _ _).refl _⟩
      · intro ρ vs W1 hb1 H
        exact gives_move rfl (H.old 8 _ (by kernel_rfl) rfl) ⟨upd_at _ _ _, (turn_later _ _ _ _ _).refl _⟩
      · intro ρ vs W1 hb1 H
        have e1 : ρ (.tmp 43) = .int .i64 (k : Int) := H.holds 43 5 (by kernel_rfl)
        exact gives_slice rfl (H.holds 42 4 (by kernel_rfl)) rfl (by simp only [Option.map_some]; rw [e1]) rfl (xslice_upto hkm) ⟨upd_at _ _ _, (turn_later _ _ _ _ _).refl _⟩
      · intro ρ vs W1 hb1 H
        have hsrc : ∀ (l : List Value), l.take (j * 1) = xreps j d → Row W1 w.heap.size 3 l → ∀ i v, (xreps j d)[i]? = some v → W1.cell? ((⟨w.heap.size, 0, none⟩ : Addr).add i) = some v := by
          intro l hl hr i v hi
          refine xrow_cells hr i v ?_
          rw [← hl, List.getElem?_take] at hi
          split at hi
          · exact hi
          · cases hi
        have hto : ∀ (l : List Value), Row W1 w.heap.size 3 l → Turn w.heap.size w.heap.size 3 cur new W1 (W1.setRow w.heap.size new.toArray) := fun l hr =>
          ⟨below_setRow (Below.refl _ _) (Nat.le_refl _) _, fun _ => .inr (rowAll_set hr), fun _ => rowAll_set hr⟩
        rcases hb1.2.1 HROW.out with h | h
        · refine gives_copyW elemIW rfl (H.holds 41 3 (by kernel_rfl)) (H.holds 44 6 (by kernel_rfl)) h (k := j) HJ.out.symm (xreps_len j d) (hsrc cur HTC.out h) (xreps_one j d) (by rw [HLC.out, xreps_len]; omega) ?_
          rw [HSC.out]
          exact ⟨⟨upd_at _ _ _, rowAll_set h⟩, hto _ h⟩
        · refine gives_copyW elemIW rfl (H.holds 41 3 (by kernel_rfl)) (H.holds 44 6 (by kernel_rfl)) h (k := j) HJ.out.symm (xreps_len j d) (hsrc new HTN.out h) (xreps_one j d) (by rw [HLN.out, xreps_len]; omega) ?_
          rw [HSN.out]
          exact ⟨⟨upd_at _ _ _, rowAll_set h⟩, hto _ h⟩
      · intro ρ vs W1 hb1 H
        have e1 : ρ (.tmp 45) = .int .i64 (j : Int) := (H.holds 45 7 (by kernel_rfl)).1
        exact gives_add rfl (H.holds 38 0 (by kernel_rfl)) e1 (by omega) (by omega) ⟨upd_at _ _ _, (turn_later _ _ _ _ _).refl _⟩
      · intro ρ vs W1 hb1 H
        exact gives_assign rfl (H.holds 46 8 (by kernel_rfl)) ⟨upd_at _ _ _, (turn_later _ _ _ _ _).refl _⟩
      · intro vs W1 hb1 hfs
        have f7 : Row W1 w.heap.size 3 new := (hfs 7 (by decide)).2
        have f9 : vs 9 = .int .i64 ((k : Int) + (j : Int)) := hfs 9 (by decide)
        clear hfs
        simp only [putAll, Nat.zero_add, Nat.reduceAdd]
        generalize vs 0 = z0
        generalize vs 1 = z1
        generalize vs 2 = z2
        generalize vs 3 = z3
        generalize vs 4 = z4
        generalize vs 5 = z5
        generalize vs 6 = z6
        generalize vs 7 = z7
        generalize vs 8 = z8
        simp only [f9, Act.put, List.setIfInBounds_toArray, List.set_cons_succ, List.set_cons_zero]
        have HREL := Lib.hid (show XRpRel d w.heap.size m w (.int .i64 ((k : Int) + (j : Int))) W1 from ⟨k + j, rest.drop (j * 1), by omega, hjm, by congr 1, by rw [List.length_drop, HRL.out]; omega, by rw [← HNEW2.out]; exact f7, HB.out.trans hb1.1⟩)
        clear f7 f9 hb1
        go_wp2
        go_roundw
        case rel => exact HREL.out
        case measure => simp [intOf]; omega
    · obtain rfl : k = m := by omega
      obtain rfl : rest = [] := List.eq_nil_of_length_eq_zero (by rw [HRL.out]; omega)
      have HR9 := HROW
      rw [List.append_nil] at HR9
      go_wp2
      go_ret
      exact ⟨_, rfl, Nat.le_refl _, HR9.out, HB.out⟩
end Go.Proofs.YtblpkmmhmdpkjaaGreatDoor

/- rle's own contracts: alike, Cut. -/



namespace Go.Proofs.YtblpkmmhmdpkjaaGreatDoor

open Go.RowKit

theorem usame_cut (l : List Int) (k : Nat) : usame (l.take k) = min (usame l) k := by
  cases l with
  | nil => simp [usame]
  | cons x r =>
    cases k with
    | zero => simp [usame]
    | succ k =>
      rw [List.take_succ_cons, usame_cons, usame_cons]
      have key : ∀ (r : List Int) (k : Nat), ((r.take k).takeWhile (· == x)).length = min (r.takeWhile (· == x)).length k := by
        intro r
        induction r with
        | nil => intro k; simp
        | cons y r ih =>
          intro k
          cases k with
          | zero => simp
          | succ k =>
            rw [List.take_succ_cons, List.takeWhile_cons, List.takeWhile_cons]
            split
            · rw [List.length_cons, List.length_cons, ih]; omega
            · simp
      rw [key]
      omega
def UAlRel (l : List Int) (w : World) (i : Value) (wr : World) : Prop := ∃ k : Nat, k ≤ usame l ∧ i = .int .i64 (k : Int) ∧ Below w.heap.size w wr
set_option maxHeartbeats 2000000 in
set_option maxRecDepth 100000 in
theorem ualike_any (l : List Int) (v : Value) (K : Nat) (w : World) (hv : IsV iv l v w) (hb : l.length ≤ 1000000) (_hK : K ≤ 1000000) :
    Calls Tryz.prog 104 #[v, .int .i64 (K : Int)] w fun e w' => e = .returned (.int .i64 ((min (usame l) K : Nat) : Int)) ∧ Below w.heap.size w w' := by
  obtain ⟨A, n, c, rfl⟩ := hv.shape
  have hln := hv.parts.1
  have hnc : n ≤ c := hv.parts.2.2.1
  have hci : (c : Int) ≤ 9223372036854775807 := by have := hv.parts.2.2.2.1; unfold maxLen at this; omega
  have hn6 : n ≤ 1000000 := by omega
  obtain ⟨m, hm⟩ : ∃ m, m = min n K := ⟨_, rfl⟩
  have hmn : m ≤ n := by omega
  have hV := hv.take hmn
  have HE := Lib.hid (show usame (l.take m) = min (usame l) K by
    have := usame_le l
    rw [usame_cut]; omega)
  have hmin : ∀ (ts : Array TypeId) (t : TypeId) (W : World), (Builtin.min_ ts t #[.int .i64 (n : Int), .int .i64 (K : Int)]).run Tryz.prog W = .ok (.int .i64 (m : Int)) W := fun ts t W => by
    rw [run_min_int2]
    congr 2
    split <;> omega
  obtain ⟨t, ht⟩ : ∃ t, t = l.take m := ⟨_, rfl⟩
  rw [← ht] at hV HE
  rw [← HE.out]
  have HN := Lib.hid (show t.length = m by rw [ht, List.length_take]; omega)
  have HV := Lib.hid hV
  have hmi : (m : Int) ≤ (c : Int) := by omega
  have hm6 : m ≤ 1000000 := by omega
  clear hv hb hV hm ht hln HE
  have HS : Hid (UAlRel t w (.int .i64 0) w) := Lib.hid ⟨0, Nat.zero_le _, rfl, Below.refl _ _⟩
  go_enter Tryz.func104, Tryz.ntmps104
  go_wp2
  go_loopw [15] (UAlRel t w) (fun i _ => m - (intOf i).toNat)
  case atStart => exact HS.out
  case round =>
    obtain ⟨k, hk, rfl, hbw⟩ := hrel
    have hle := usame_le t
    have hkn : k ≤ m := by have := HN.out; omega
    have HK := Lib.hid hk
    have HB := Lib.hid hbw
    clear HS
    by_cases hlt : k < m
    · have hkl : k < t.length := by have := HN.out; omega
      have hn0i : (0 : Int) < (m : Int) := by omega
      have hlti : (k : Int) < (m : Int) := by omega
      have hiff := usame_iff hkl hk
      obtain ⟨ad, rfl, had, hcell⟩ := (HV.out.below hbw).at hkl
      obtain ⟨_, hAd, _, hcell0⟩ := (HV.out.below hbw).at (k := 0) (by omega)
      injection hAd with hAd
      subst hAd
      obtain ⟨x, hx⟩ : ∃ x, x = t[k] := ⟨_, rfl⟩
      obtain ⟨x0, hx0⟩ : ∃ x, x = t[0] := ⟨_, rfl⟩
      rw [← hx, ← hx0] at hiff
      have hcx : wr.cell? (ad.add k) = some (.int .i64 x) := by rw [hcell, hx]; rfl
      have hc0 : wr.cell? ad = some (.int .i64 x0) := by
        have h1 : ad.add 0 = ad := by unfold Addr.add; split <;> simp_all
        rw [← h1, hcell0, hx0]; rfl
      have HI := Lib.hid hiff
      clear hcell hcell0 hx hx0 hiff hk hbw hle
      by_cases he : x = x0
      · have d2 : (x != x0) = false := by simpa using he
        have HE := Lib.hid he
        clear he
        go_wp2
        go_roundw
        case rel => exact ⟨k + 1, HI.out.2 HE.out, by go_num, HB.out⟩
        case measure => simp [intOf]; omega
      · have d2 : (x != x0) = true := by simpa using he
        have HE := Lib.hid he
        clear he
        go_wp2
        go_ret
        refine ⟨?_, HB.out⟩
        have h1 : k = usame t := Nat.le_antisymm HK.out (Nat.not_lt.1 fun h => HE.out (HI.out.1 h))
        rw [← h1]
        rfl
    · obtain rfl : k = m := by omega
      have hlti : ¬ (k : Int) < (k : Int) := by omega
      have h1 : k = usame t := by have := HN.out; omega
      have HE := Lib.hid h1
      clear h1 hk hbw hle
      go_wp2
      go_ret
      refine ⟨?_, HB.out⟩
      rw [← HE.out]
      rfl
def UCRel (l : List Int) (m : Nat) (w : World) (i : Value) (wr : World) : Prop := ∃ k : Nat, 1 ≤ k ∧ k ≤ max 1 m ∧ i = .int .i64 (k : Int) ∧ (∀ j, 1 ≤ j → j < k → ufind l j = false) ∧ Below w.heap.size w wr
set_option maxHeartbeats 2000000 in
set_option maxRecDepth 100000 in
theorem ucut_any (l : List Int) (v : Value) (w : World) (hv : IsV iv l v w) (hb : l.length ≤ 1000000) :
    Calls Tryz.prog 70 #[v] w fun e w' => e = .returned (.int .i64 (ucut l : Int)) ∧ Below w.heap.size w w' := by
  have HV := Lib.hid hv
  obtain ⟨A, n, c, rfl⟩ := hv.shape
  have HN := Lib.hid hv.parts.1
  have hnc : n ≤ c := hv.parts.2.2.1
  have hci : (c : Int) ≤ 9223372036854775807 := by have := hv.parts.2.2.2.1; unfold maxLen at this; omega
  have hn6 : n ≤ 1000000 := by have := HN.out; omega
  have HL := Lib.hid hb
  obtain ⟨u, hu⟩ : ∃ u, u = min (usame l) 512 := ⟨_, rfl⟩
  have HA := Lib.hid (ualike_any l _ 512 w hv hb (by omega))
  rw [← hu] at HA
  have hul : u ≤ 512 := by omega
  obtain ⟨m, hm⟩ : ∃ m, m = min n 512 := ⟨_, rfl⟩
  have hmin : ∀ (ts : Array TypeId) (t : TypeId) (W : World), (Builtin.min_ ts t #[.int .i64 (n : Int), .int .i64 512]).run Tryz.prog W = .ok (.int .i64 (m : Int)) W := fun ts t W => by
    rw [run_min_int2]
    congr 2
    split <;> omega
  have hmn : m ≤ n := by omega
  have hm5 : m ≤ 512 := by omega
  by_cases hu3 : 3 ≤ u
  · have hu3i : (3 : Int) ≤ (u : Int) := by omega
    have hE : Hid (ucut l = u) := Lib.hid (by rw [hu]; exact ucut_same (by omega))
    clear hv hb hu hm
    go_enter Tryz.func70, Tryz.ntmps70
    go_wp2_with fail
    refine HA.out.mono ?_
    rintro e w1 ⟨rfl, hb1⟩
    go_wp2
    go_ret
    exact ⟨by rw [hE.out]; rfl, hb1⟩
  · have hu3i : ¬ (3 : Int) ≤ (u : Int) := by omega
    have HU3 : Hid (¬ 3 ≤ usame l) := Lib.hid (by omega)
    have HM : Hid (min l.length 512 = m) := Lib.hid (by rw [hm, HN.out])
    clear hv hb hu hm
    go_enter Tryz.func70, Tryz.ntmps70
    go_wp2_with fail
    refine HA.out.mono ?_
    rintro e w1 ⟨rfl, hb1⟩
    have HS : Hid (UCRel l m w (.int .i64 1) w1) := Lib.hid ⟨1, by omega, by omega, rfl, fun j h1 h2 => by omega, hb1⟩
    clear hb1
    go_wp2
    go_loopw [5] (UCRel l m w) (fun i _ => 513 - (intOf i).toNat)
    case atStart => exact HS.out
    case round =>
      obtain ⟨k, hk1, hkm, rfl, hno, hbw⟩ := hrel
      have HNO := Lib.hid hno
      have HBW := Lib.hid hbw
      clear hno hbw HS
      by_cases hlt : k < m
      · have hlti : (k : Int) < (m : Int) := by omega
        have hkn : k ≤ n := by omega
        obtain ⟨v4, hv4, hI4⟩ := fromV_named (P := Tryz.prog) elemI (k := k) hkn (HV.out.below HBW.out)
        obtain ⟨g, hg⟩ : ∃ g, g = min (usame (l.drop k)) 5 := ⟨_, rfl⟩
        have HS4 := Lib.hid (ualike_any (l.drop k) v4 5 wr hI4 (by rw [List.length_drop]; have := HL.out; omega) (by omega))
        rw [← hg] at HS4
        have hg5 : g ≤ 5 := by omega
        have HG := Lib.hid hg
        clear hg hI4
        by_cases h5 : g = 5
        · have hE : Hid (ucut l = k) := Lib.hid (ucut_at HU3.out hk1 (by have := HN.out; omega) (by omega) HNO.out (by unfold ufind; exact decide_eq_true (by have := HG.out; omega)))
          have d1 : ((g : Int) == 5) = true := by rw [h5]; rfl
          clear h5
          go_wp2_with (refine wpList_slicedL rfl _ _ _ rfl _ (hv4 _) ?_)
          refine HS4.out.mono ?_
          rintro e w2 ⟨rfl, hb2⟩
          have HB2 := Lib.hid (below_then HBW.out hb2)
          clear hb2
          go_wp2
          go_ret
          exact ⟨by rw [hE.out]; rfl, HB2.out⟩
        · have d1 : ((g : Int) == 5) = false := by simp; omega
          have HG5 := Lib.hid h5
          clear h5
          go_wp2_with (refine wpList_slicedL rfl _ _ _ rfl _ (hv4 _) ?_)
          refine HS4.out.mono ?_
          rintro e w2 ⟨rfl, hb2⟩
          have HB2 := Lib.hid (below_then HBW.out hb2)
          clear hb2
          go_wp2
          go_roundw
          case rel =>
            refine ⟨k + 1, by omega, by omega, by go_num, fun j h1 h2 => ?_, HB2.out⟩
            by_cases hj : j < k
            · exact HNO.out j h1 hj
            · obtain rfl : j = k := by omega
              unfold ufind
              exact decide_eq_false (by have := HG.out; have := HG5.out; omega)
          case measure => simp [intOf]; omega
      · have hlti : ¬ (k : Int) < (m : Int) := by omega
        have hE : Hid (ucut l = m) := Lib.hid (by
          rw [ucut_all HU3.out (fun j h1 h2 => HNO.out j h1 (by have := HM.out; omega)), HM.out])
        go_wp2
        go_ret
        exact ⟨by rw [hE.out]; rfl, HBW.out⟩
end Go.Proofs.YtblpkmmhmdpkjaaGreatDoor
