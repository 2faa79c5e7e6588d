
/- The statement PatchedFew: for any numbers, any width, any places, the law answers true. No condition. -/

import Derived.Test.YtdcgkjcefbceeaaDoorG4
namespace Go.Proofs.YtdcgkjcefbceeaaDoor

open Go.RowKit Go.ChangeShapes Go.WideShapes Go.ChangeAt

theorem countP_set_le {α : Type} (p : α → Bool) : ∀ (l : List α) (i : Nat) (a : α), (l.set i a).countP p ≤ l.countP p + 1
  | [], _, _ => by simp
  | x :: l, 0, a => by
    rw [List.set_cons_zero, List.countP_cons, List.countP_cons]
    split <;> split <;> omega
  | x :: l, i + 1, a => by
    have := countP_set_le p l i a
    rw [List.set_cons_succ, List.countP_cons, List.countP_cons]
    omega
theorem countP_low {l : List Nat} {K : Nat} (h : ∀ x ∈ l, x < K) : l.countP (fun u => decide (K ≤ u)) = 0 := by
  rw [List.countP_eq_zero]
  intro x hx
  have := h x hx
  simp; omega
/-- The numbers of which none is great, in a loop; of which some are. -/
def FewRel (l : List Int) (K : Nat) (w : World) (v i : Value) (wr : World) : Prop :=
  ∃ k : Nat, k ≤ l.length ∧ k ≤ 250 ∧ i = .int .i64 (k : Int) ∧ wr.ownsRow w.heap.size 3 1 v (k + 1) ((0 :: (l.take k).map (fun x => x % (K : Int))).map iv) ∧ Below w.heap.size w wr
def FewRel2 (al : List Int) (W N g0 c9 : Nat) (w : World) (i : Value) (wr : World) : Prop :=
  ∃ (k : Nat) (tl : List Int), k ≤ al.length ∧ k ≤ 31 ∧ i = .int .i64 (k : Int) ∧ tl.length + 1 = N ∧ (∀ x ∈ tl, 0 ≤ x ∧ x < (((1 + 5 * k) * 2 ^ W : Nat) : Int)) ∧ ((0 :: tl).map Int.toNat).countP (fun u => decide (2 ^ W ≤ u)) ≤ k ∧ wr.ownsRow w.heap.size 3 1 (.slice (some ⟨g0, 0, none⟩) N c9) N ((0 :: tl).map iv) ∧ Below w.heap.size w wr
theorem few_set {tl : List Int} {W k j N : Nat} {y : Int} (hN : tl.length + 1 = N) (hj : 1 ≤ j) (hjN : j < N) (hy : (0 :: tl)[j]? = some y) (hb : ∀ x ∈ tl, 0 ≤ x ∧ x < (((1 + 5 * k) * 2 ^ W : Nat) : Int)) (hc : ((0 :: tl).map Int.toNat).countP (fun u => decide (2 ^ W ≤ u)) ≤ k) :
    ∃ tl', (0 :: tl').map iv = ((0 :: tl).map iv).set j (iv (y + 5 * ((2 ^ W : Nat) : Int))) ∧ tl'.length + 1 = N ∧ (∀ x ∈ tl', 0 ≤ x ∧ x < (((1 + 5 * (k + 1)) * 2 ^ W : Nat) : Int)) ∧ ((0 :: tl').map Int.toNat).countP (fun u => decide (2 ^ W ≤ u)) ≤ k + 1 := by
  obtain ⟨i, rfl⟩ : ∃ i, j = i + 1 := ⟨j - 1, by omega⟩
  rw [List.getElem?_cons_succ] at hy
  have hyb := hb y (List.mem_of_getElem? hy)
  have e1 : (1 + 5 * (k + 1)) * 2 ^ W = (1 + 5 * k) * 2 ^ W + 5 * 2 ^ W := by rw [← Nat.add_mul, show 1 + 5 * (k + 1) = 1 + 5 * k + 5 by omega]
  refine ⟨tl.set i (y + 5 * ((2 ^ W : Nat) : Int)), ?_, by rw [List.length_set]; exact hN, ?_, ?_⟩
  · rw [← List.map_set, List.set_cons_succ]
  · intro x hx
    rw [e1]
    rcases List.mem_or_eq_of_mem_set hx with h | h
    · have := hb x h; omega
    · subst h; omega
  · have h2 := countP_set_le (fun u => decide (2 ^ W ≤ u)) ((0 :: tl).map Int.toNat) (i + 1) (y + 5 * ((2 ^ W : Nat) : Int)).toNat
    rw [← List.map_set, List.set_cons_succ] at h2
    omega
set_option maxHeartbeats 4000000 in
set_option maxRecDepth 100000 in
theorem PatchedFew_walk (w : World) (ht : WTab w) (v0 : Value) (l0 : List Int) (hI0 : IsV iv l0 v0 w) (_hx0 : ∀ x ∈ l0, inInt x) (width : Int) (_hW0 : -9223372036854775808 ≤ width) (_hW1 : width ≤ 9223372036854775807) (v1 : Value) (l1 : List Int) (hI1 : IsV iv l1 v1 w) (_hx1 : ∀ x ∈ l1, inInt x) :
    Calls Tryd.prog 6 #[v0, .int .i64 width, v1] w fun e w' => e = .returned (.bool true) ∧ Below w.heap.size w w' := by
  have HT := Lib.hid ht
  have HL := Lib.hid hI0
  have HA := Lib.hid hI1
  obtain ⟨q, hq⟩ : ∃ q, q = Int.tmod width 24 := ⟨_, rfl⟩
  have hqb : -23 ≤ q ∧ q ≤ 23 := by
    have h := Int.natAbs_tmod width 24
    rw [← hq, show (24 : Int).natAbs = 24 from rfl] at h
    omega
  obtain ⟨W, hW⟩ : ∃ W : Nat, W = 1 + q.natAbs := ⟨_, rfl⟩
  have hW1 : 1 ≤ W := by omega
  have hW24 : W ≤ 24 := by omega
  have hqt : Int.tmod width 24 = q := hq.symm
  obtain ⟨r1, hr1⟩ : ∃ r, 1 + q = r := ⟨_, rfl⟩
  have hsgn : decide (r1 < 1) = true ∧ 1 - q = (W : Int) ∨ decide (r1 < 1) = false ∧ r1 = (W : Int) := by
    by_cases h : q < 0
    · exact .inl ⟨decide_eq_true (by omega), by omega⟩
    · exact .inr ⟨decide_eq_false (by omega), by omega⟩
  obtain ⟨K, hK⟩ : ∃ K, K = 2 ^ W := ⟨_, rfl⟩
  have hKp : 1 ≤ K := by rw [hK]; exact Nat.one_le_two_pow
  have hK24 : K ≤ 16777216 := by rw [hK]; exact Nat.pow_le_pow_right (n := 2) (i := W) (j := 24) (by omega) hW24
  have HKC := Lib.hid (show (2 : Int) ^ W = (K : Int) by rw [hK]; simp)
  have HKW : Hid (IntKind.i64.wrap (K : Int) = (K : Int)) := Lib.hid (by rw [IntKind.wrap_i64]; omega)
  have HKW5 : Hid (IntKind.i64.wrap (5 * (K : Int)) = 5 * (K : Int)) := Lib.hid (by rw [IntKind.wrap_i64]; omega)
  obtain ⟨K1, hK1⟩ : ∃ K1, K1 = K - 1 := ⟨_, rfl⟩
  have HK1 := Lib.hid (show (K : Int) - 1 = (K1 : Int) by omega)
  have HKM := Lib.hid (fun (n : Int) => i64_mask n W (by omega))
  rw [← hK, ← hK1] at HKM
  have HKE := Lib.hid hK
  obtain ⟨A0, n0, c0, rfl⟩ := HL.out.shape
  have HN0 := Lib.hid HL.out.parts.1
  obtain ⟨A1, n1, c1, rfl⟩ := HA.out.shape
  have HN1 := Lib.hid HA.out.parts.1
  have hn0c : n0 ≤ c0 := HL.out.parts.2.2.1
  have hn1c : n1 ≤ c1 := HA.out.parts.2.2.1
  have hc0i : (c0 : Int) ≤ 9223372036854775807 := by have := HL.out.parts.2.2.2.1; unfold maxLen at this; omega
  have hc1i : (c1 : Int) ≤ 9223372036854775807 := by have := HA.out.parts.2.2.2.1; unfold maxLen at this; omega
  clear ht hI0 hI1 hq hW hK hK1
  rcases hsgn with ⟨hs, hk⟩ | ⟨hs, rfl⟩
  all_goals
    go_enter Tryd.func6, Tryd.ntmps6
    go_wp2_with fail
    refine (shown_any _ HT.out).mono ?_
    rintro e w1 ⟨rfl, hb1⟩
    have HT := Lib.hid (WTab.below HT.out hb1 (WTab.lt HT.out))
    have HL := Lib.hid (IsV.below HL.out hb1)
    have HA := Lib.hid (IsV.below HA.out hb1)
    have HB := Lib.hid hb1
    clear hb1
    have h0st : FewRel l0 K w1 (.slice (some ⟨w1.heap.size, 0, none⟩) 1 1) (.int .i64 0) (w1.alloc (.cells #[.int .i64 0] 3)) := ⟨0, by omega, by omega, rfl, own_one w1 3 (.int .i64 0) (Nat.le_refl _), (Below.refl _ _).alloc (Nat.le_refl _) _⟩
    have HST := Lib.hid h0st
    clear h0st
    go_wp2
    go_loopw [9, 10] (FewRel l0 K w1) (fun _ i _ => 251 - (intOf i).toNat)
    case atStart => exact HST.out
    case round =>
      obtain ⟨k, hkl, hk5, rfl, hown, hbr⟩ := hrel
      have HSTT := HST
      clear HST
      have HOWN := Lib.hid hown
      have HBR := Lib.hid hbr
      by_cases hgo : k < n0 ∧ k < 250
      · obtain ⟨hkn, hk250⟩ := hgo
        have d1 : decide (k < n0) = true := decide_eq_true (by omega)
        have d2 : decide ((k : Int) < 250) = true := decide_eq_true (by omega)
        have hkl' : k < l0.length := by have := HN0.out; omega
        obtain ⟨ad, rfl, hadl, hcell⟩ := HL.out.at hkl'
        obtain ⟨x, hx⟩ : ∃ x, x = l0[k] := ⟨_, rfl⟩
        obtain ⟨z, hz⟩ : ∃ z, z = x % (K : Int) := ⟨_, rfl⟩
        have HCX : Hid (wr.cell? (ad.add k) = some (.int .i64 x)) := Lib.hid (by rw [hbr.cell (by rw [add_block]; exact hadl), hcell, hx]; rfl)
        have HADW : Hid (ad.block < wr.heap.size) := Lib.hid (Nat.lt_of_lt_of_le hadl hbr.size)
        have HAND : Hid (bits .and .i64 x (K1 : Int) = z) := Lib.hid (by rw [HKM.out, hz])
        have HZ : Hid ((l0.take (k + 1)).map (fun x => x % (K : Int)) = (l0.take k).map (fun x => x % (K : Int)) ++ [z]) := Lib.hid (by rw [List.take_succ_eq_append_getElem hkl', List.map_append, hz, hx]; rfl)
        obtain ⟨tk, htk⟩ : ∃ tk, tk = (l0.take k).map (fun x => x % (K : Int)) := ⟨_, rfl⟩
        rw [← htk] at HOWN HZ
        clear hcell hx hz hown hbr hadl hkl hk5 htk
        go_wp2
        refine wp_region_list_tail 10 [.is (u9), .is (.slice (some ad) n0 c0), .is (.int .i64 (k : Int)), .is (.pointer (some (ad.add k))), .is (.int .i64 x), .is (.int .i64 (W : Int)), .is (.int .i64 (K : Int)), .is (.int .i64 (K1 : Int)), .is (.int .i64 z), .vals iv [z]] [some 39, some 40, some 41, some 42, some 43, some 44, some 45, some 46, some 47, some 48] (by kernel_rfl) (by kernel_rfl) (by kernel_rfl) (by kernel_rfl) rfl ⟨?_, ?_, ?_, ?_, ?_, ?_, ?_, ?_, ?_, ?_, trivial⟩ ?_
        · intro ρ W1 hb1 H
          exact gives_move rfl (H.old 9 _ (by kernel_rfl) rfl) ⟨rfl, Below.refl _ _⟩
        · intro ρ W1 hb1 H
          exact gives_move rfl (H.old 0 _ (by kernel_rfl) rfl) ⟨rfl, Below.refl _ _⟩
        · intro ρ W1 hb1 H
          exact gives_move rfl (H.old 10 _ (by kernel_rfl) rfl) ⟨rfl, Below.refl _ _⟩
        · intro ρ W1 hb1 H
          exact gives_index (k := k) elemI rfl (H.new 40 1 (by kernel_rfl)) (H.new 41 2 (by kernel_rfl)) hkn ⟨rfl, Below.refl _ _⟩
        · intro ρ W1 hb1 H
          exact gives_load rfl (H.new 42 3 (by kernel_rfl)) Tryd.underlying3 rfl ((hb1.cell (by rw [add_block]; exact HADW.out)).trans HCX.out) ⟨rfl, Below.refl _ _⟩
        · intro ρ W1 hb1 H
          exact gives_move rfl (H.old 8 _ (by kernel_rfl) rfl) ⟨rfl, Below.refl _ _⟩
        · intro ρ W1 hb1 H
          exact gives_shlI (k := W) rfl (H.const _) (H.new 44 5 (by kernel_rfl)) (by omega) (by rw [Int.one_mul, HKC.out]; exact HKW.out) ⟨rfl, Below.refl _ _⟩
        · intro ρ W1 hb1 H
          exact gives_sub rfl (H.new 45 6 (by kernel_rfl)) (H.const _) (by omega) (by omega) ⟨by rw [HK1.out]; rfl, Below.refl _ _⟩
        · intro ρ W1 hb1 H
          exact gives_andI rfl (H.new 43 4 (by kernel_rfl)) (H.new 46 7 (by kernel_rfl)) HAND.out ⟨rfl, Below.refl _ _⟩
        · intro ρ W1 hb1 H
          exact gives_val (f := iv) elemI (a := z) rfl (H.new 47 8 (by kernel_rfl)) rfl fun _ _ h hb => ⟨h, hb⟩
        · intro vs W1 hb1 hfs
          have f0 : vs 0 = (u9) := hfs 0 (by decide)
          have f1 : vs 1 = (.slice (some ad) n0 c0) := hfs 1 (by decide)
          have f2 : vs 2 = (.int .i64 (k : Int)) := hfs 2 (by decide)
          have f3 : vs 3 = (.pointer (some (ad.add k))) := hfs 3 (by decide)
          have f4 : vs 4 = (.int .i64 x) := hfs 4 (by decide)
          have f5 : vs 5 = (.int .i64 (W : Int)) := hfs 5 (by decide)
          have f6 : vs 6 = (.int .i64 (K : Int)) := hfs 6 (by decide)
          have f7 : vs 7 = (.int .i64 (K1 : Int)) := hfs 7 (by decide)
          have f8 : vs 8 = (.int .i64 z) := hfs 8 (by decide)
          have f9 : IsV iv [z] (vs 9) W1 := hfs 9 (by decide)
          clear hfs
          simp only [putAll, Nat.zero_add, Nat.reduceAdd, List.drop_succ_cons, List.drop_zero]
          rw [f0, f1, f2, f3, f4, f5, f6, f7, f8]
          clear f0 f1 f2 f3 f4 f5 f6 f7 f8
          simp only [Act.put, List.setIfInBounds_toArray, List.set_cons_succ, List.set_cons_zero]
          have hown1 := own_below HOWN.out hb1
          have hB1 := HBR.out.trans (hb1.mono HBR.out.size)
          have hz1 := hB1.size
          obtain ⟨A9, n9, c9, e9⟩ := f9.shape
          rw [e9] at f9 ⊢
          obtain ⟨hn9, hA9, -, -, hl9⟩ := f9.parts
          have hn91 : n9 = 1 := by rw [← hn9]; rfl
          subst hn91
          clear f9 e9 hn9
          go_wp2_with (at_builtin; refine wpList_join elemI rfl _ _ rfl w1.heap.size _ _ _ _ _ _ ([z].map iv) w1 rfl rfl hA9 (by simp) hl9 (by intro u hu; simp at hu; subst hu; rfl) hown1 hB1 hz1 (by omega) (by omega) ?_)
          intro v9 w9 hown9 hb9 _ _
          have hrel : FewRel l0 K w1 v9 (.int .i64 ((k : Int) + 1)) w9 := ⟨k + 1, by have := HN0.out; omega, by omega, by rw [Int.natCast_add]; rfl, by rw [HZ.out, ← List.cons_append, List.map_append]; exact hown9, hb9⟩
          have HREL := Lib.hid hrel
          clear hown9 hb9 hrel hown1 hB1 hz1 hA9 hl9 hb1
          go_wp2
          go_roundw
          case rel => exact HREL.out
          case measure => simp [intOf]; omega
      · have hd : decide (k < n0) = false ∨ (decide (k < n0) = true ∧ decide ((k : Int) < 250) = false) := by
          by_cases h : k < n0
          · exact .inr ⟨decide_eq_true (by omega), decide_eq_false (by omega)⟩
          · exact .inl (decide_eq_false (by omega))
        have HT1 := Lib.hid HT.out
        have HA1 := Lib.hid HA.out
        have HB1 := Lib.hid HB.out
        obtain ⟨tl0, htl0⟩ : ∃ tl, tl = (l0.take k).map (fun x => x % (K : Int)) := ⟨_, rfl⟩
        rw [← htl0] at hown
        have hl0 : tl0.length = k := by rw [htl0, List.length_map, List.length_take]; omega
        have ht0 : ∀ x ∈ tl0, 0 ≤ x ∧ x < (K : Int) := by
          intro x hx
          rw [htl0] at hx
          obtain ⟨y, _, rfl⟩ := List.mem_map.1 hx
          exact ⟨Int.emod_nonneg _ (by omega), Int.emod_lt_of_pos _ (by omega)⟩
        obtain ⟨N, hN⟩ : ∃ N, N = k + 1 := ⟨_, rfl⟩
        rw [← hN] at hown
        obtain ⟨g0, c9, rfl, hg0, hg0l, hNc, hc9⟩ := own_block hown (by omega)
        have hst2 : FewRel2 l1 W N g0 c9 w1 (.int .i64 0) wr := ⟨0, tl0, by omega, by omega, rfl, by omega, fun x hx => by rw [← HKE.out]; have := ht0 x hx; omega, by
          rw [countP_low]
          · exact Nat.le_refl _
          · intro x hx
            rw [← HKE.out]
            obtain ⟨y, hy, rfl⟩ := List.mem_map.1 hx
            rcases List.mem_cons.1 hy with h | h
            · rw [h]; simp; omega
            · have := ht0 y h; omega, hown, hbr⟩
        have HST2 := Lib.hid hst2
        have HG0 := Lib.hid hg0
        have HGL0 := Lib.hid hg0l
        have hNi : ((N : Int) == 0) = false := by simp; omega
        have hNne : (N : Int) ≠ 0 := by omega
        have hN1 : 1 ≤ N := by omega
        have hN5 : N ≤ 251 := by omega
        have hc9i : (c9 : Int) ≤ 9223372036854775807 := by unfold maxLen at hc9; omega
        generalize wr = w2 at *
        clear hown hbr hst2 hg0 hg0l htl0 hl0 ht0 hN hc9 hkl hk5 HOWN HBR hgo HSTT
        rcases hd with d1 | ⟨d1, d2⟩
        all_goals
          go_wp2
          go_loopw [11] (FewRel2 l1 W N g0 c9 w1) (fun i _ => 32 - (intOf i).toNat)
          case atStart => exact HST2.out
          case round =>
            obtain ⟨k, tl, hkl, hk31, rfl, htl, htb, hcp, hown, hbr⟩ := hrel
            have HSTT2 := HST2
            clear HST2
            have HOWN := Lib.hid hown
            have HBR := Lib.hid hbr
            have HTL := Lib.hid htl
            have HTB := Lib.hid htb
            have HCP := Lib.hid hcp
            have hkn1 : k ≤ n1 := by have := HN1.out; omega
            clear hown htl htb hcp
            by_cases hgo : k < n1 ∧ k < 31
            · obtain ⟨hkn, hk30⟩ := hgo
              have d3 : decide (k < n1) = true := decide_eq_true (by omega)
              have d4 : decide ((k : Int) < 31) = true := decide_eq_true (by omega)
              have hkl' : k < l1.length := by have := HN1.out; omega
              obtain ⟨ad, rfl, hadl, hcell⟩ := HA1.out.at hkl'
              obtain ⟨x, hx⟩ : ∃ x, x = l1[k] := ⟨_, rfl⟩
              have hcx : wr.cell? (ad.add k) = some (.int .i64 x) := by rw [hbr.cell (by rw [add_block]; exact hadl), hcell, hx]; rfl
              obtain ⟨p, hp⟩ : ∃ p, Int.tmod x (N : Int) = p := ⟨_, rfl⟩
              have hpb : p < (N : Int) := by
                have h := Int.natAbs_tmod x (N : Int)
                rw [hp, Int.natAbs_natCast] at h
                have h2 := Nat.mod_lt x.natAbs (show 0 < N by omega)
                omega
              have HCXX := Lib.hid hcell
              clear hcell hx
              by_cases hp0 : 0 < p
              · obtain ⟨j, rfl⟩ := Int.eq_ofNat_of_zero_le (show 0 ≤ p by omega)
                have d5 : decide ((0 : Int) < (j : Int)) = true := decide_eq_true hp0
                have hj1 : 1 ≤ j := by omega
                have hjN : j < N := by omega
                obtain ⟨y, hy⟩ : ∃ y, (0 :: tl)[j]? = some y := ⟨_, List.getElem?_eq_getElem (by rw [List.length_cons, HTL.out]; exact hjN)⟩
                obtain ⟨tl', hs⟩ := few_set HTL.out hj1 hjN hy HTB.out HCP.out
                have HS := Lib.hid hs
                have HYB : Hid (0 ≤ y ∧ y ≤ 9000000000) := Lib.hid (by
                  obtain ⟨i, rfl⟩ : ∃ i, j = i + 1 := ⟨j - 1, by omega⟩
                  rw [List.getElem?_cons_succ] at hy
                  have h1 := HTB.out y (List.mem_of_getElem? hy)
                  have h2 : (1 + 5 * k) * 2 ^ W ≤ 156 * 2 ^ W := Nat.mul_le_mul_right _ (by omega)
                  rw [← HKE.out] at h1 h2
                  omega)
                have HADD : Hid ((⟨g0, 0, none⟩ : Addr).add j = ⟨g0, j, none⟩) := Lib.hid (by unfold Addr.add; split <;> simp_all)
                have HCL : Hid (wr.cell? ⟨g0, j, none⟩ = some (.int .i64 y)) := Lib.hid (by rw [HOWN.out.cellAt j (by omega), List.getElem?_map, hy]; rfl)
                have HGL : Hid (g0 < wr.heap.size) := Lib.hid (by
                  obtain ⟨g', c', e, _, h, _⟩ := own_block HOWN.out hN1
                  injection e with e _ _
                  injection e with e
                  injection e with e _ _
                  rw [e]; exact h)
                clear hs hy hbr hadl hkl hk31 hpb
                go_wp2
                refine wp_region_list_tail 10 [.is (.slice (some ⟨g0, 0, none⟩) N c9), .is (.int .i64 (j : Int)), .is (.slice (some ⟨g0, 0, none⟩) N c9), .is (.int .i64 (j : Int)), .is (.pointer (some ⟨g0, j, none⟩)), .is (.int .i64 y), .is (.int .i64 (W : Int)), .is (.int .i64 (5 * (K : Int))), .is (.int .i64 (y + 5 * (K : Int))), .is (.pointer (some ⟨g0, j, none⟩))] [some 69, some 70, some 71, some 72, some 73, some 74, some 75, some 76, some 77, some 78] (by kernel_rfl) (by kernel_rfl) (by kernel_rfl) (by kernel_rfl) rfl ⟨?_, ?_, ?_, ?_, ?_, ?_, ?_, ?_, ?_, ?_, trivial⟩ ?_
                · intro ρ W1 hb1 H
                  exact gives_move rfl (H.old 9 _ (by kernel_rfl) rfl) ⟨rfl, Below.refl _ _⟩
                · intro ρ W1 hb1 H
                  exact gives_move rfl (H.old 12 _ (by kernel_rfl) rfl) ⟨rfl, Below.refl _ _⟩
                · intro ρ W1 hb1 H
                  exact gives_move rfl (H.old 9 _ (by kernel_rfl) rfl) ⟨rfl, Below.refl _ _⟩
                · intro ρ W1 hb1 H
                  exact gives_move rfl (H.old 12 _ (by kernel_rfl) rfl) ⟨rfl, Below.refl _ _⟩
                · intro ρ W1 hb1 H
                  exact gives_index (k := j) elemI rfl (H.new 71 2 (by kernel_rfl)) (H.new 72 3 (by kernel_rfl)) hjN ⟨congrArg (fun q => Value.pointer (some q)) HADD.out, Below.refl _ _⟩
                · intro ρ W1 hb1 H
                  exact gives_load rfl (H.new 73 4 (by kernel_rfl)) Tryd.underlying3 rfl ((hb1.cell HGL.out).trans HCL.out) ⟨rfl, Below.refl _ _⟩
                · intro ρ W1 hb1 H
                  exact gives_move rfl (H.old 8 _ (by kernel_rfl) rfl) ⟨rfl, Below.refl _ _⟩
                · intro ρ W1 hb1 H
                  exact gives_shlI (k := W) rfl (H.const _) (H.new 75 6 (by kernel_rfl)) (by omega) (by rw [HKC.out]; exact HKW5.out) ⟨rfl, Below.refl _ _⟩
                · intro ρ W1 hb1 H
                  exact gives_add rfl (H.new 74 5 (by kernel_rfl)) (H.new 76 7 (by kernel_rfl)) (by have := HYB.out; omega) (by have := HYB.out; omega) ⟨rfl, Below.refl _ _⟩
                · intro ρ W1 hb1 H
                  exact gives_index (k := j) elemI rfl (H.new 69 0 (by kernel_rfl)) (H.new 70 1 (by kernel_rfl)) hjN ⟨congrArg (fun q => Value.pointer (some q)) HADD.out, Below.refl _ _⟩
                · intro vs W1 hb1 hfs
                  have f0 : vs 0 = (.slice (some ⟨g0, 0, none⟩) N c9) := hfs 0 (by decide)
                  have f1 : vs 1 = (.int .i64 (j : Int)) := hfs 1 (by decide)
                  have f2 : vs 2 = (.slice (some ⟨g0, 0, none⟩) N c9) := hfs 2 (by decide)
                  have f3 : vs 3 = (.int .i64 (j : Int)) := hfs 3 (by decide)
                  have f4 : vs 4 = (.pointer (some ⟨g0, j, none⟩)) := hfs 4 (by decide)
                  have f5 : vs 5 = (.int .i64 y) := hfs 5 (by decide)
                  have f6 : vs 6 = (.int .i64 (W : Int)) := hfs 6 (by decide)
                  have f7 : vs 7 = (.int .i64 (5 * (K : Int))) := hfs 7 (by decide)
                  have f8 : vs 8 = (.int .i64 (y + 5 * (K : Int))) := hfs 8 (by decide)
                  have f9 : vs 9 = (.pointer (some ⟨g0, j, none⟩)) := hfs 9 (by decide)
                  clear hfs
                  simp only [putAll, Nat.zero_add, Nat.reduceAdd, List.drop_succ_cons, List.drop_zero]
                  rw [f0, f1, f2, f3, f4, f5, f6, f7, f8, f9]
                  clear f0 f1 f2 f3 f4 f5 f6 f7 f8 f9
                  simp only [Act.put, List.setIfInBounds_toArray, List.set_cons_succ, List.set_cons_zero]
                  have hownW := own_below HOWN.out hb1
                  have hbW := HBR.out.trans (hb1.mono HBR.out.size)
                  have hcW : W1.cell? ⟨g0, j, none⟩ = some (.int .i64 y) := (hb1.cell HGL.out).trans HCL.out
                  have hfW := hownW.frozenAt j
                  have HST1 := Lib.hid (hownW.stored j (iv (y + 5 * (K : Int)))).1
                  have HST2 := Lib.hid (hbW.setCell (p := ⟨g0, j, none⟩) HG0.out (iv (y + 5 * (K : Int))))
                  clear hownW hbW hb1
                  go_wp2
                  go_roundw
                  case rel => exact ⟨k + 1, tl', by have := HN1.out; omega, by omega, by go_num, HS.out.2.1, HS.out.2.2.1, HS.out.2.2.2, by rw [HS.out.1, ← HKE.out]; exact HST1.out, HST2.out⟩
                  case measure => simp [intOf]; omega
              · have d5 : decide ((0 : Int) < p) = false := decide_eq_false hp0
                clear hp0 hpb hadl hkl hk31
                go_wp2
                go_roundw
                case rel =>
                  refine ⟨k + 1, tl, by have := HN1.out; omega, by omega, by go_num, HTL.out, fun x hx => ?_, Nat.le_succ_of_le HCP.out, HOWN.out, HBR.out⟩
                  have h1 := HTB.out x hx
                  have h2 : (1 + 5 * k) * 2 ^ W ≤ (1 + 5 * (k + 1)) * 2 ^ W := Nat.mul_le_mul_right _ (by omega)
                  omega
                case measure => simp [intOf]; omega
            · have hd2 : decide (k < n1) = false ∨ (decide (k < n1) = true ∧ decide ((k : Int) < 31) = false) := by
                by_cases h : k < n1
                · exact .inr ⟨decide_eq_true (by omega), decide_eq_false (by omega)⟩
                · exact .inl (decide_eq_false (by omega))
              have HT := Lib.hid (HT1.out.below hbr HT1.out.lt)
              have HB := Lib.hid (below_then HB1.out hbr)
              have HPF := Lib.hid (pfew_put (tl := tl) hW1 hW24 (by have := HTL.out; omega) (fun x hx => by
                have h1 := HTB.out x hx
                have h2 : (1 + 5 * k) * 2 ^ W ≤ 156 * 2 ^ W := Nat.mul_le_mul_right _ (by omega)
                omega) (Nat.le_trans HCP.out hk31))
              have HO := Lib.hid (isV_own (f := iv) HOWN.out)
              have HOL : Hid ((0 :: tl).length ≤ 251) := Lib.hid (by rw [List.length_cons, HTL.out]; exact hN5)
              have HOI : Hid (∀ x ∈ (0 :: tl), inInt x) := Lib.hid (by
                intro x hx
                rcases List.mem_cons.1 hx with h | h
                · rw [h]; unfold inInt; omega
                · have h1 := HTB.out x h
                  have h2 : (1 + 5 * k) * 2 ^ W ≤ 156 * 2 ^ W := Nat.mul_le_mul_right _ (by omega)
                  rw [← HKE.out] at h1 h2
                  unfold inInt
                  omega)
              clear hbr hgo hkl hk31 HOWN HBR HSTT2
              rcases hd2 with d3 | ⟨d3, d4⟩
              all_goals
              have HP := Lib.hid (pput_any (0 :: tl) _ (W : Int) false wr HT.out HO.out HOI.out (by have := HOL.out; omega) ⟨by omega, by omega⟩)
              rw [HPF.out.1] at HP
              go_wp2_with fail
              refine (HP.out).mono ?_
              rintro e w41 ⟨b, rfl, hb, hb41⟩
              have HT := Lib.hid (WTab.below HT.out hb41 (WTab.lt HT.out))
              have HO := Lib.hid (IsV.below HO.out hb41)
              have HB := Lib.hid (below_then HB.out hb41)
              have HBS := Lib.hid hb
              clear hb hb41
              have HTA := Lib.hid (ptake_any (play 0 ((0 :: tl).map Int.toNat) W) b false w41 HT.out HBS.out (by have := HPF.out.2.1; omega))
              rw [HPF.out.2.2] at HTA
              go_wp2_with fail
              refine (HTA.out).mono ?_
              rintro e w42 ⟨m, r, rfl, hm, hr, hb42⟩
              have HT := Lib.hid (WTab.below HT.out hb42 (WTab.lt HT.out))
              have HO := Lib.hid (IsV.below HO.out hb42)
              have HBS := Lib.hid (IsB.below HBS.out hb42)
              have HB := Lib.hid (below_then HB.out hb42)
              have HM := Lib.hid hm
              have HR := Lib.hid hr
              clear hm hr hb42
              go_wp2_with fail
              refine (same8_is HM.out HO.out (by have := HOL.out; omega) (by have := HOL.out; omega)).mono ?_
              rintro e w43 ⟨rfl, hb43⟩
              have HT := Lib.hid (WTab.below HT.out hb43 (WTab.lt HT.out))
              have HO := Lib.hid (IsV.below HO.out hb43)
              have HBS := Lib.hid (IsB.below HBS.out hb43)
              have HM := Lib.hid (IsV.below HM.out hb43)
              have HR := Lib.hid (IsB.below HR.out hb43)
              have HB := Lib.hid (below_then HB.out hb43)
              clear hb43
              have hz : ((0 :: tl) == (0 :: tl)) = true := by simp
              obtain ⟨Ar, cr, rfl, _⟩ := HR.out
              simp only [hz, List.length_nil]
              go_wp2
              go_ret
              exact ⟨rfl, HB.out⟩

set_option maxRecDepth 100000 in
theorem PatchedFew_lifted (os : Os) (started : os.Started) (H : Type) (enc : TypeId × Value → H) :
    ReturnsInHanded {} Tryd.checked os 6 .any (fun w args => (Rows.patchedFewSpec.pre enc Tryd.prog Tryd.f6 [] false w args ∧ laidMetH Tryd.prog [("pilaster/widths.table", Rows.laid_pilaster_widths_table)] w) ∧ sizedMet enc Tryd.prog Tryd.f6 (OpenSpec.ofChange Rows.patchedFewSpec) false w args) (Rows.patchedFewSpec.post enc Tryd.prog Tryd.f6 false true false false) := by
  refine returnsInHanded_of_change_and (C := Tryd.checked) (X := fun w _ => laidMetH Tryd.prog [("pilaster/widths.table", Rows.laid_pilaster_widths_table)] w) (fun _ _ _ hh h => h.of_heap hh) own started (by kernel_rfl) Tryd.func6
    (ChangeSpec.witness_shaped (enc := enc) (C := Tryd.checked) (os := os) (X := fun w _ => laidMetH Tryd.prog [("pilaster/widths.table", Rows.laid_pilaster_widths_table)] w) false (World.doorLaid Tryd.prog 400 os) #[.slice none 0 0, .int .i64 0, .slice none 0 0] 8 rfl (World.shaped_of_RefB (by kernel_rfl) (by kernel_rfl)) (by kernel_rfl) (by kernel_rfl) (by kernel_rfl) (door_met os _)) ?_
  intro W base args ds gs before hval0 hW _ _ hL _
  have hT := tab_of hL
  clear hL
  have hval : ∀ (j : Nat) t v, Tryd.f6.params[j]? = some t → args[j]? = some v → Value.okWide Tryd.prog W .any base t v := hval0
  have hW' := hW
  obtain ⟨p, q, hT0, hV, rfl, hfz, hnd⟩ := hW
  have hA : DataW.TrodAll enc Tryd.prog W 0 (fun _ => true) true Tryd.f6.params.toList args.toList ds p := hT0
  rw [Tryd.params6] at hA hval
  obtain ⟨v0, vs0, d0, ds0, p0, q0, hargs, rfl, rfl, h0, r0⟩ := trodAll_cons hA
  obtain ⟨v1, vs1, d1, ds1, p1, q1, rfl, rfl, rfl, h1, r1⟩ := trodAll_cons r0
  obtain ⟨v2, vs2, d2, ds2, p2, q2, rfl, rfl, rfl, h2, r2⟩ := trodAll_cons r1
  obtain ⟨rfl, rfl, rfl⟩ := trodAll_nil r2
  obtain rfl : args = #[v0, v1, v2] := by cases args; simp_all
  obtain ⟨rfl, rfl⟩ := trodVars_none hV
  have hlt0 : ∀ x ∈ p0, x.block < W.heap.size := fun x hx => hW'.lt x (by simp [hx])
  obtain ⟨l0, hl0, hx0⟩ := open_intsv Tryd.underlying22 Tryd.underlying3 (by kernel_rfl) (hval 0 22 v0 rfl rfl) h0 hlt0
  obtain ⟨a1, rfl, rfl, rfl, w1⟩ := open_int Tryd.underlying3 (hval 1 3 v1 rfl rfl) h1
  have hlt2 : ∀ x ∈ p2, x.block < W.heap.size := fun x hx => hW'.lt x (by simp [hx])
  obtain ⟨l2, hl2, hx2⟩ := open_intsv Tryd.underlying22 Tryd.underlying3 (by kernel_rfl) (hval 2 22 v2 rfl rfl) h2 hlt2
  clear hT0 hval0
  refine (PatchedFew_walk W hT v0 l0 hl0 hx0 a1 (wf_i64 w1).1 (wf_i64 w1).2 v2 l2 hl2 hx2).mono fun e W' ⟨he, hb⟩ => ?_
  subst he
  exact ⟨_, rfl, law_post laidOut Tryd.underlying4 (by kernel_rfl) (by kernel_rfl) rfl hW' rfl hb⟩

theorem PatchedFew_over : Rows.patchedFewRow.holds Tryd.pinned (OpenSpec.ofChange Rows.patchedFewSpec) :=
  OpenClaim.holds_of_wide 6 Tryd.f6 rfl rfl rfl rfl rfl rfl rfl ⟨rfl, rfl, rfl, rfl, rfl⟩ rfl rfl rfl rfl rfl (by kernel_rfl) Tryd.func6 (by kernel_rfl)
    (of_decide_eq_true (by kernel_rfl)) (by unfold Func.isWrapper; first | (rw [if_pos (by decide +kernel)]; kernel_rfl) | (rw [if_neg (by decide +kernel)]; exact ⟨rfl, rfl⟩))
    (fun os started H enc _ => PatchedFew_lifted os started H enc)

theorem PatchedFew_holds : Rows.PatchedFewCardSaid :=
  Claim7.holds_tied_plain_at .later [] _ true _ _ PatchedFew_over (fun _ h => by cases h) (by kernel_rfl) (fun _ h => by cases h) patchedFew_row_tie rfl ⟨rfl, rfl⟩ (by kernel_rfl) rfl
    (fun f fn hf hfn => by
      obtain rfl : f = 6 := Option.some.inj ((show Tryd.prog.funcNamed "pilaster/pilasterlaw10.PatchedFew" = some 6 by kernel_rfl).symm.trans hf) |>.symm
      obtain rfl : fn = Tryd.f6 := (Option.some.inj (Tryd.func6.symm.trans hfn)).symm
      exact ⟨by kernel_rfl, fun j t ht => stand_ins (by kernel_rfl) ht⟩)
    (by kernel_rfl)
#print axioms PatchedFew_holds

end Go.Proofs.YtdcgkjcefbceeaaDoor
