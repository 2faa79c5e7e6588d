/- Texts that the claims of this seat share, part 5: TPutO TIs PPlain PTPlain PRef. -/
import Derived.Laws.OwnMore
import Derived.Test.YtblpkmmhmdpkjaaGreatDoorAG4
/- delta's own contracts: Put. -/



namespace Go.Proofs.YtblpkmmhmdpkjaaGreatDoor

open Go.RowKit

theorem gtail_same {us : List Nat} (h : gall us = true) : gtail us = [] ∧ gnum us = 0 := ⟨by unfold gtail; rw [if_pos h], by unfold gnum; rw [if_pos h]⟩
theorem gtail_more {us : List Nat} (h : gall us = false) : gtail us = bpack us.tail (gwide us.tail) ∧ gnum us = gcode us.tail := by
  have h2 : ¬ gall us = true := by rw [h]; decide
  exact ⟨by unfold gtail; rw [if_neg h2], by unfold gnum; rw [if_neg h2]⟩
/-- pack, of differences that go one way. -/
theorem tpack_any (l : List Int) (m : Nat) (v : Value) (w : World) (ht : WTab w) (hd : IsR dc (gpairs l m) v w) (h1 : 1 ≤ m) (h5 : m ≤ 511) (hs : dsame (gpairs l m) = gall (sizesOf (gpairs l m))) :
    Calls Tryz.prog 151 #[v] w (RetPk w (gnum (sizesOf (gpairs l m))) (gtail (sizesOf (gpairs l m)))) := by
  cases h : gall (sizesOf (gpairs l m)) with
  | true =>
    rw [(gtail_same h).1, (gtail_same h).2]
    exact pack_same _ v w hd (by rw [gpairs_len]; omega) (by rw [hs, h])
  | false =>
    rw [(gtail_more h).1, (gtail_more h).2, ← sizes_tail]
    exact pack_more _ v w ht hd (by rw [gpairs_len]; omega) (by rw [gpairs_len]; omega) (by rw [hs, h]) sizes_lt
theorem gnum_le {us : List Nat} (h : ∀ u ∈ us, u < 2 ^ 64) : gnum us ≤ 31 := by
  unfold gnum
  split
  · omega
  · exact (gwide_int fun u hu => h u (List.mem_of_mem_tail hu)).2.2.2.2.2.2.1
/-- A tail is short. -/
theorem gtail_short {us : List Nat} (hl : us.length ≤ 512) (h : ∀ u ∈ us, u < 2 ^ 64) : (gtail us).length ≤ 5000 := by
  unfold gtail
  split
  · simp
  · rw [bpack_len]
    have h1 : (us.tail).length ≤ 512 := by rw [List.length_tail]; omega
    have h2 := (gwide_int fun u hu => h u (List.mem_of_mem_tail hu)).2.2.2.2.1
    exact Nat.le_trans (bsize_small h1 h2) (by omega)
set_option maxHeartbeats 8000000 in
set_option maxRecDepth 100000 in
theorem tput_own (l : List Int) (v : Value) (s : Bool) (w : World) (ht : WTab w) (hv : IsV iv l v w) (hl : ∀ x ∈ l, inInt x) (hb : l.length ≤ 1000000) : Calls Tryz.prog 126 #[v, .bool s] w (RetEO w (gputE l s)) := by
  obtain ⟨A, n, c, rfl⟩ := hv.shape
  have hn := hv.len
  by_cases h2 : n < 2 ∨ 512 < n
  · have hE := Lib.hid (gputE_no (s := s) (.inr (by rw [← hn]; exact h2) : dplain l s = none ∨ l.length < 2 ∨ 512 < l.length))
    have HC := Lib.hid (tcount_no (n : Int) w (by omega))
    clear hv hl hb hn h2 ht
    go_enter Tryz.func126, Tryz.ntmps126
    go_wp2_with (go_at_call 147; refine HC.out.mono ?_; rintro e w' ⟨rfl, rfl⟩)
    go_ret2
    rw [hE.out]
    exact RetEO.nil _ (Below.refl _ _)
  · have HN := Lib.hid hn
    have HV := Lib.hid hv
    have HT := Lib.hid ht
    have HL := Lib.hid hl
    have HC := Lib.hid (tcount_yes (n : Int) w (by omega) (by omega))
    have hn2 : 2 ≤ n := by omega
    have hn5 : n ≤ 512 := by omega
    obtain ⟨m, hm⟩ : ∃ m, m = n - 1 := ⟨_, rfl⟩
    have HM := Lib.hid (show l.length - 1 = m by omega)
    have hm1 : 1 ≤ m := by omega
    have hm5 : m ≤ 511 := by omega
    have HL0 := Lib.hid (show inInt (l.headD 0) by
      cases l with
      | nil => unfold inInt; simp
      | cons a t => exact hl a List.mem_cons_self)
    have hne : l ≠ [] := by rintro rfl; simp at hn; omega
    have HMIN := Lib.hid (min_any l (.slice A n c) w hv (by omega) hb)
    have HNEG := Lib.hid (lmin_neg hne)
    obtain ⟨mn, hmn⟩ : ∃ mn, mn = lmin l := ⟨_, rfl⟩
    rw [← hmn] at HMIN HNEG
    have HDF := Lib.hid (diffs_any l (.slice A n c) w hv hl (by omega) hb)
    clear hv ht hl hb h2 hn hne hmn hm
    cases s with
    | true =>
      have HPL := Lib.hid (dplain_some (l := l) (s := true) (.inl rfl))
      go_enter Tryz.func126, Tryz.ntmps126
      go_wp2_with (first | (go_at_call 147; refine HC.out.mono ?_; rintro e w' ⟨rfl, rfl⟩) | (go_at_call 148; refine HMIN.out.mono ?_; rintro e w' ⟨rfl, rfl⟩) | (go_at_call 149; refine HDF.out.mono ?_))
      rintro e w1 (⟨hok, dv1, rfl, hd1, hb1⟩ | ⟨⟨i, hi, hbad⟩, rfl, hb1⟩)
      · have HOK := Lib.hid (show ∀ i, i < m → (diffAt l i).2.2 = true from fun i hi => hok i (by have := HN.out; have := HM.out; omega))
        rw [HM.out] at hd1
        obtain ⟨DA, dn, dcap, rfl⟩ := hd1.shape
        have hdn : dn = m := by have := hd1.parts.1; rw [gpairs_len] at this; omega
        subst hdn
        have HD1 := Lib.hid hd1
        have HB1 := Lib.hid hb1
        have HT1 := Lib.hid (HT.out.below hb1 HT.out.lt)
        have HWAY := Lib.hid (way_any (gpairs l dn) (.slice DA dn dcap) w1 hd1 (by rw [gpairs_len]; exact hm1) (by rw [gpairs_len]; omega))
        clear hok hd1 hb1
        cases hway : dway (gpairs l dn) with
        | false =>
          have hE := Lib.hid (gputE_none (s := true) (show gsizes l (gfalls l) (l.length - 1) = none by rw [HM.out]; exact gsizes_turn hm1 HOK.out hway))
          rw [hway] at HWAY
          clear hway
          go_wp2_with (go_at_call 150; refine HWAY.out.mono ?_; rintro e w2 ⟨rfl, hb2⟩)
          go_ret2
          rw [hE.out]
          exact RetEO.nil _ (below_then HB1.out hb2)
        | true =>
          have HSZ := Lib.hid (gsizes_way hm1 HOK.out hway)
          have HSM := Lib.hid (dsame_all hm1 HOK.out hway)
          have hst := first_step hm1 HOK.out
          have hE := gputE_some (s := true) HPL.out (by have := HN.out; omega) (by have := HN.out; omega) (show gsizes l (gfalls l) (l.length - 1) = some (sizesOf (gpairs l dn)) by rw [HM.out]; exact HSZ.out)
          have hfi := (gfirst_diff (l := l) (us := sizesOf (gpairs l dn)) (by have := HN.out; omega) (by rw [HM.out]; exact HSZ.out)).2
          have h64 := gsizes_64 HSZ.out
          have HPK := Lib.hid (fun (w : World) ht hd => tpack_any l dn (.slice DA dn dcap) w ht hd hm1 (by omega) HSM.out)
          have hgn := gnum_le h64
          have HTB := Lib.hid (gtail_short (us := sizesOf (gpairs l dn)) (by rw [show (sizesOf (gpairs l dn)).length = dn by unfold sizesOf; rw [List.length_map, gpairs_len]]; omega) h64)
          unfold glay at hE
          obtain ⟨us, hus⟩ : ∃ us, us = sizesOf (gpairs l dn) := ⟨_, rfl⟩
          rw [← hus] at hE hst hfi HPK hgn HTB
          obtain ⟨G, hG⟩ : ∃ G, G = gnum us := ⟨_, rfl⟩
          obtain ⟨tl, htl⟩ : ∃ tl, tl = gtail us := ⟨_, rfl⟩
          obtain ⟨x1, hx1⟩ : ∃ x1, x1 = gfirst l us := ⟨_, rfl⟩
          obtain ⟨x0, hx0⟩ : ∃ x0, x0 = l.headD 0 := ⟨_, rfl⟩
          rw [← hG, ← htl, ← hx1, ← hx0, ← HN.out] at hE
          rw [← hG, ← htl] at HPK
          rw [← hG] at hgn
          rw [← htl] at HTB
          rw [← hx1] at hst hfi
          obtain ⟨u0, f0, ok0, hd0⟩ : ∃ u0 f0 ok0, diffAt l 0 = (u0, f0, ok0) := ⟨_, _, _, rfl⟩
          have hu0 : (u0 : Int) < 18446744073709551616 := by have h := gdiff_lt (l.getD 0 0) (l.getD (0 + 1) 0); unfold diffAt at hd0; rw [hd0] at h; dsimp only at h; omega
          rw [hd0] at hst
          have HSP := Lib.hid (fun (w : World) => step_any 0 u0 f0 w (by unfold inInt; omega) hu0)
          rw [hst] at HSP
          unfold RetG at HSP
          have HE2 := Lib.hid hE
          have HX1 := Lib.hid hfi
          have HG31 := Lib.hid hgn
          have HX0 := Lib.hid (show inInt x0 by rw [hx0]; exact HL0.out)
          have HC0 := Lib.hid (show ∀ W, Below w.heap.size w W → ∃ ad, A = some ad ∧ ad.block < W.heap.size ∧ W.cell? (ad.add 0) = some (.int .i64 x0) from fun W hW => by
            obtain ⟨ad, e1, e2, e3⟩ := (HV.out.below hW).at (k := 0) (by have := HN.out; omega)
            refine ⟨ad, e1, e2, ?_⟩
            rw [e3, hx0]
            cases l with
            | nil => have := HN.out; simp at this; omega
            | cons a t => rfl)
          have HDC := Lib.hid (show ∀ W, IsR dc (gpairs l dn) (.slice DA dn dcap) W → ∃ ad, DA = some ad ∧ ad.block < W.heap.size ∧ W.cell? ad = some (.int .u64 (u0 : Int)) ∧ W.cell? ⟨ad.block, ad.off + 1, none⟩ = some (.bool f0) from fun W hW => by
            obtain ⟨ad, e1, e2, e3⟩ := hW.at (m := 2) dc_len (by omega) (k := 0) (by rw [gpairs_len]; exact hm1)
            have e4 : (gpairs l dn)[0]? = some (u0, f0) := by rw [gpairs_get 0 hm1, hd0]; rfl
            rw [List.getElem?_eq_getElem (by rw [gpairs_len]; exact hm1)] at e4
            injection e4 with e4
            rw [e4] at e3
            have k0 := cells2 e3
            rw [Nat.zero_mul] at k0
            have ha0 : ad.add 0 = ad := by simp [Addr.add]
            rw [ha0] at k0
            exact ⟨ad, e1, e2, k0.1, k0.2⟩)
          rw [hway] at HWAY
          clear hway hE hst hfi h64 hgn hus hG htl hx1 hx0 hd0 hu0
          go_wp2_with fail
          refine HWAY.out.mono ?_
          rintro e w2 ⟨rfl, hb2⟩
          have HB2 := Lib.hid (below_then HB1.out hb2)
          have HT2 := Lib.hid (HT1.out.below hb2 HT1.out.lt)
          have HD2 := Lib.hid (HD1.out.below hb2)
          clear hb2
          go_wp2_with fail
          refine (HPK.out w2 HT2.out HD2.out).mono ?_
          rintro e w3 ⟨pv, rfl, hp3, hb3⟩
          have HB3 := Lib.hid (below_then HB2.out hb3)
          have HT3 := Lib.hid (HT2.out.below hb3 HT2.out.lt)
          have HP3 := Lib.hid hp3
          obtain ⟨da, rfl, hda, hdc1, hdc2⟩ := HDC.out w3 (HD2.out.below hb3)
          clear hb3 hp3
          have ha0 : da.add 0 = da := by simp [Addr.add]
          go_wp2_with fail
          refine (HSP.out w3).mono ?_
          rintro e w4 ⟨rfl, hb4⟩
          have HB4 := Lib.hid (below_then HB3.out hb4)
          have HT4 := Lib.hid (HT3.out.below hb4 HT3.out.lt)
          have HP4 := Lib.hid (IsB.below HP3.out hb4)
          clear hb4 hdc1 hdc2 hda ha0
          go_wp2
          obtain ⟨ad, rfl, had, _⟩ := HC0.out w4 HB4.out
          refine wp_region_list [.is (.int .i64 (G : Int)), .is (.slice (some ad) n c), .is (.int .i64 (n : Int)), .bytes (dheadN 3 G n), .is (.slice (some ad) n c), .is (.pointer (some (ad.add 0))), .is (.int .i64 x0), .is (.bool true), .bytes (dheadN 3 G n ++ vput (vint x0 true)), .bytes (dheadN 3 G n ++ vput (vint x0 true))] [some 55, some 56, some 57, some 58, some 59, some 60, some 61, some 62, some 63, some 13] (by kernel_rfl) (by kernel_rfl) (by kernel_rfl) rfl ⟨?_, ?_, ?_, ?_, ?_, ?_, ?_, ?_, ?_, ?_, trivial⟩ ?_
          · intro ρ W1 hb1 H
            exact gives_move rfl (H.old 8 _ (by kernel_rfl) rfl) ⟨rfl, Below.refl _ _⟩
          · intro ρ W1 hb1 H
            exact gives_move rfl (H.old 0 _ (by kernel_rfl) rfl) ⟨rfl, Below.refl _ _⟩
          · intro ρ W1 hb1 H
            exact gives_len Tryz.underlying47 rfl (H.new 56 1 (by kernel_rfl)) ⟨rfl, Below.refl _ _⟩
          · intro ρ W1 hb1 H
            have e0 : ρ (.tmp 55) = .int .i64 (G : Int) := H.new 55 0 (by kernel_rfl)
            have e1 : ρ (.tmp 57) = .int .i64 (n : Int) := H.new 57 2 (by kernel_rfl)
            refine gives_call rfl (fun _ _ => by kernel_rfl) (H.func _) (args := #[.int .i64 3, .int .i64 (G : Int), .int .i64 (n : Int)]) (by simp [e0, e1, H.const]) ?_
            have hG := HG31.out
            refine (dhead_any 3 (G : Int) (n : Int) W1 (HT4.out.below hb1 HT4.out.lt) (by unfold inInt; omega) (by unfold inInt; omega) (by unfold inInt; omega)).mono ?_
            rintro e w' ⟨u, h1, h2, h3⟩
            rw [show ((3 : Int)) = ((3 : Nat) : Int) from rfl, dhead_in (by omega) hG (by omega) (by omega)] at h2
            exact ⟨_, h1, h2, h3⟩
          · intro ρ W1 hb1 H
            exact gives_move rfl (H.old 0 _ (by kernel_rfl) rfl) ⟨rfl, Below.refl _ _⟩
          · intro ρ W1 hb1 H
            exact gives_index (k := 0) elemI rfl (H.new 59 4 (by kernel_rfl)) (H.const _) (by omega) ⟨rfl, Below.refl _ _⟩
          · intro ρ W1 hb1 H
            obtain ⟨ad', e1, _, e2⟩ := HC0.out W1 (below_then HB4.out hb1)
            injection e1 with e1
            subst e1
            exact gives_load rfl (H.new 60 5 (by kernel_rfl)) Tryz.underlying3 rfl e2 ⟨rfl, Below.refl _ _⟩
          · intro ρ W1 hb1 H
            exact gives_move rfl (H.old 1 _ (by kernel_rfl) rfl) ⟨rfl, Below.refl _ _⟩
          · intro ρ W1 hb1 H
            have e0 : IsB (dheadN 3 G n) (ρ (.tmp 58)) W1 := H.new 58 3 (by kernel_rfl)
            have e1 : ρ (.tmp 61) = .int .i64 x0 := H.new 61 6 (by kernel_rfl)
            have e2 : ρ (.tmp 62) = .bool true := H.new 62 7 (by kernel_rfl)
            obtain ⟨hv, hhv⟩ : ∃ hv, hv = ρ (.tmp 58) := ⟨_, rfl⟩
            rw [← hhv] at e0
            refine gives_call rfl (fun _ _ => by kernel_rfl) (H.func _) (args := #[hv, .int .i64 x0, .bool true]) (by simp [hhv, e1, e2]) ?_
            exact (putInt_isB x0 true e0 (by rw [dheadN_len]; omega) HX0.out.1 HX0.out.2).mono fun e w' ⟨u, h1, h2, h3⟩ => ⟨_, h1, h2, h3⟩
          · intro ρ W1 hb1 H
            exact gives_assign rfl rfl ⟨H.new 63 8 (by kernel_rfl), Below.refl _ _⟩
          · intro vs W1 hb1 hfs
            have f9 : IsB (dheadN 3 G n ++ vput (vint x0 true)) (vs 9) W1 := hfs 9 (by decide)
            clear hfs
            simp only [putAll, Nat.zero_add, Nat.reduceAdd]
            generalize vs 0 = z0
            generalize vs 1 = z1
            generalize vs 2 = z2
            generalize vs 3 = z3
            generalize vs 4 = z4
            generalize vs 5 = z5
            generalize vs 6 = z6
            generalize vs 7 = z7
            generalize vs 8 = z8
            generalize vs 9 = z9 at f9 ⊢
            simp only [Act.put, List.setIfInBounds_toArray, List.set_cons_succ, List.set_cons_zero]
            have HO := Lib.hid f9
            have HBa := Lib.hid (below_then HB4.out hb1)
            have HP5 := Lib.hid (IsB.below HP4.out hb1)
            have HLN := Lib.hid (show (dheadN 3 G n ++ vput (vint x0 true)).length ≤ 1000 by rw [List.length_append, dheadN_len]; have := vput_len_10 (x := vint x0 true) (vint_64 HX0.out); omega)
            clear f9 hb1
            go_wp2_with fail
            refine (putInt_isO x1 true HO.out (by have := HLN.out; omega) HX1.out.1 HX1.out.2).mono ?_
            rintro e w6 ⟨v6, rfl, hown6, hb6⟩
            have hp6 := IsB.below HP5.out hb6
            obtain ⟨A7, n7, c7, rfl⟩ := IsV.shape (f := bv) hp6
            obtain ⟨hn7, hA7, -, -, hl7⟩ := IsV.parts (f := bv) (show IsV bv _ _ _ from hp6)
            have hM7 : (tl.map bv).length = n7 := by rw [List.length_map]; exact hn7
            have hn7b : n7 ≤ 5000 := by rw [← hn7]; exact HTB.out
            have HM7 := Lib.hid hM7
            have hzz6 := hb6.size
            obtain ⟨K6, hK6⟩ : ∃ K, K = (dheadN 3 G n ++ vput (vint x0 true) ++ vput (vint x1 true)).length := ⟨_, rfl⟩
            have hK6b : K6 ≤ 2000 := by rw [hK6, List.length_append]; have := vput_len_10 (x := vint x1 true) (vint_64 HX1.out); have := HLN.out; omega
            rw [← hK6] at hown6
            have HK6 := Lib.hid hK6
            obtain ⟨xs6, hx6⟩ : ∃ xs, xs = (dheadN 3 G n ++ vput (vint x0 true) ++ vput (vint x1 true)).map bv := ⟨_, rfl⟩
            rw [← hx6] at hown6
            have HX6 := Lib.hid hx6
            clear hp6 hM7 hn7 hK6 hx6
            go_wp2_with (at_builtin; refine wpList_join elemB rfl _ _ rfl W1.heap.size _ _ _ _ _ _ (tl.map bv) W1 rfl rfl hA7 HM7.out hl7 (bv_one _) hown6 hb6 hzz6 (by omega) (by omega) ?_)
            intro v8 w8 hown8 hb8 _ _
            have HI9 := Lib.hid (show w8.ownsRow w.heap.size 5 1 v8 (dheadN 3 G n ++ vput (vint x0 true) ++ vput (vint x1 true) ++ tl).length ((dheadN 3 G n ++ vput (vint x0 true) ++ vput (vint x1 true) ++ tl).map bv) by
              rw [List.map_append, ← HX6.out, List.length_append, ← HK6.out, show tl.length = n7 by have := HM7.out; rwa [List.length_map] at this]
              exact own_base HBa.out.size hown8)
            have HB9 := Lib.hid (below_then HBa.out hb8)
            clear hown8 hb8 hown6 hzz6
            go_wp2
            go_ret2
            rw [HE2.out]
            exact ⟨_, rfl, HI9.out, HB9.out⟩
      · have hE := Lib.hid (gputE_none (s := true) (show gsizes l (gfalls l) (l.length - 1) = none from gsizes_none (k := i) (by omega) (gat_bad hbad)))
        clear hi hbad
        go_wp2
        go_ret2
        rw [hE.out]
        exact RetEO.nil _ hb1
    | false =>
      by_cases h0 : mn < 0
      · have d0 : decide (mn < 0) = true := decide_eq_true h0
        have hE := Lib.hid (gputE_no (l := l) (s := false) (.inl (by obtain ⟨x, hx, hx0⟩ := HNEG.out.1 h0; exact dplain_neg hx hx0)))
        clear h0
        go_enter Tryz.func126, Tryz.ntmps126
        go_wp2_with (first | (go_at_call 147; refine HC.out.mono ?_; rintro e w' ⟨rfl, rfl⟩) | (go_at_call 148; refine HMIN.out.mono ?_; rintro e w' ⟨rfl, rfl⟩))
        go_ret2
        rw [hE.out]
        exact RetEO.nil _ (Below.refl _ _)
      have d0 : decide (mn < 0) = false := decide_eq_false h0
      have HPL := Lib.hid (dplain_some (l := l) (s := false) (.inr fun x hx => by
        by_cases h : x < 0
        · exact absurd (HNEG.out.2 ⟨x, hx, h⟩) h0
        · omega))
      clear h0
      go_enter Tryz.func126, Tryz.ntmps126
      go_wp2_with (first | (go_at_call 147; refine HC.out.mono ?_; rintro e w' ⟨rfl, rfl⟩) | (go_at_call 148; refine HMIN.out.mono ?_; rintro e w' ⟨rfl, rfl⟩) | (go_at_call 149; refine HDF.out.mono ?_))
      rintro e w1 (⟨hok, dv1, rfl, hd1, hb1⟩ | ⟨⟨i, hi, hbad⟩, rfl, hb1⟩)
      · have HOK := Lib.hid (show ∀ i, i < m → (diffAt l i).2.2 = true from fun i hi => hok i (by have := HN.out; have := HM.out; omega))
        rw [HM.out] at hd1
        obtain ⟨DA, dn, dcap, rfl⟩ := hd1.shape
        have hdn : dn = m := by have := hd1.parts.1; rw [gpairs_len] at this; omega
        subst hdn
        have HD1 := Lib.hid hd1
        have HB1 := Lib.hid hb1
        have HT1 := Lib.hid (HT.out.below hb1 HT.out.lt)
        have HWAY := Lib.hid (way_any (gpairs l dn) (.slice DA dn dcap) w1 hd1 (by rw [gpairs_len]; exact hm1) (by rw [gpairs_len]; omega))
        clear hok hd1 hb1
        cases hway : dway (gpairs l dn) with
        | false =>
          have hE := Lib.hid (gputE_none (s := false) (show gsizes l (gfalls l) (l.length - 1) = none by rw [HM.out]; exact gsizes_turn hm1 HOK.out hway))
          rw [hway] at HWAY
          clear hway
          go_wp2_with (go_at_call 150; refine HWAY.out.mono ?_; rintro e w2 ⟨rfl, hb2⟩)
          go_ret2
          rw [hE.out]
          exact RetEO.nil _ (below_then HB1.out hb2)
        | true =>
          have HSZ := Lib.hid (gsizes_way hm1 HOK.out hway)
          have HSM := Lib.hid (dsame_all hm1 HOK.out hway)
          have hst := first_step hm1 HOK.out
          have hE := gputE_some (s := false) HPL.out (by have := HN.out; omega) (by have := HN.out; omega) (show gsizes l (gfalls l) (l.length - 1) = some (sizesOf (gpairs l dn)) by rw [HM.out]; exact HSZ.out)
          have hfi := (gfirst_diff (l := l) (us := sizesOf (gpairs l dn)) (by have := HN.out; omega) (by rw [HM.out]; exact HSZ.out)).2
          have h64 := gsizes_64 HSZ.out
          have HPK := Lib.hid (fun (w : World) ht hd => tpack_any l dn (.slice DA dn dcap) w ht hd hm1 (by omega) HSM.out)
          have hgn := gnum_le h64
          have HTB := Lib.hid (gtail_short (us := sizesOf (gpairs l dn)) (by rw [show (sizesOf (gpairs l dn)).length = dn by unfold sizesOf; rw [List.length_map, gpairs_len]]; omega) h64)
          unfold glay at hE
          obtain ⟨us, hus⟩ : ∃ us, us = sizesOf (gpairs l dn) := ⟨_, rfl⟩
          rw [← hus] at hE hst hfi HPK hgn HTB
          obtain ⟨G, hG⟩ : ∃ G, G = gnum us := ⟨_, rfl⟩
          obtain ⟨tl, htl⟩ : ∃ tl, tl = gtail us := ⟨_, rfl⟩
          obtain ⟨x1, hx1⟩ : ∃ x1, x1 = gfirst l us := ⟨_, rfl⟩
          obtain ⟨x0, hx0⟩ : ∃ x0, x0 = l.headD 0 := ⟨_, rfl⟩
          rw [← hG, ← htl, ← hx1, ← hx0, ← HN.out] at hE
          rw [← hG, ← htl] at HPK
          rw [← hG] at hgn
          rw [← htl] at HTB
          rw [← hx1] at hst hfi
          obtain ⟨u0, f0, ok0, hd0⟩ : ∃ u0 f0 ok0, diffAt l 0 = (u0, f0, ok0) := ⟨_, _, _, rfl⟩
          have hu0 : (u0 : Int) < 18446744073709551616 := by have h := gdiff_lt (l.getD 0 0) (l.getD (0 + 1) 0); unfold diffAt at hd0; rw [hd0] at h; dsimp only at h; omega
          rw [hd0] at hst
          have HSP := Lib.hid (fun (w : World) => step_any 0 u0 f0 w (by unfold inInt; omega) hu0)
          rw [hst] at HSP
          unfold RetG at HSP
          have HE2 := Lib.hid hE
          have HX1 := Lib.hid hfi
          have HG31 := Lib.hid hgn
          have HX0 := Lib.hid (show inInt x0 by rw [hx0]; exact HL0.out)
          have HC0 := Lib.hid (show ∀ W, Below w.heap.size w W → ∃ ad, A = some ad ∧ ad.block < W.heap.size ∧ W.cell? (ad.add 0) = some (.int .i64 x0) from fun W hW => by
            obtain ⟨ad, e1, e2, e3⟩ := (HV.out.below hW).at (k := 0) (by have := HN.out; omega)
            refine ⟨ad, e1, e2, ?_⟩
            rw [e3, hx0]
            cases l with
            | nil => have := HN.out; simp at this; omega
            | cons a t => rfl)
          have HDC := Lib.hid (show ∀ W, IsR dc (gpairs l dn) (.slice DA dn dcap) W → ∃ ad, DA = some ad ∧ ad.block < W.heap.size ∧ W.cell? ad = some (.int .u64 (u0 : Int)) ∧ W.cell? ⟨ad.block, ad.off + 1, none⟩ = some (.bool f0) from fun W hW => by
            obtain ⟨ad, e1, e2, e3⟩ := hW.at (m := 2) dc_len (by omega) (k := 0) (by rw [gpairs_len]; exact hm1)
            have e4 : (gpairs l dn)[0]? = some (u0, f0) := by rw [gpairs_get 0 hm1, hd0]; rfl
            rw [List.getElem?_eq_getElem (by rw [gpairs_len]; exact hm1)] at e4
            injection e4 with e4
            rw [e4] at e3
            have k0 := cells2 e3
            rw [Nat.zero_mul] at k0
            have ha0 : ad.add 0 = ad := by simp [Addr.add]
            rw [ha0] at k0
            exact ⟨ad, e1, e2, k0.1, k0.2⟩)
          rw [hway] at HWAY
          clear hway hE hst hfi h64 hgn hus hG htl hx1 hx0 hd0 hu0
          go_wp2_with fail
          refine HWAY.out.mono ?_
          rintro e w2 ⟨rfl, hb2⟩
          have HB2 := Lib.hid (below_then HB1.out hb2)
          have HT2 := Lib.hid (HT1.out.below hb2 HT1.out.lt)
          have HD2 := Lib.hid (HD1.out.below hb2)
          clear hb2
          go_wp2_with fail
          refine (HPK.out w2 HT2.out HD2.out).mono ?_
          rintro e w3 ⟨pv, rfl, hp3, hb3⟩
          have HB3 := Lib.hid (below_then HB2.out hb3)
          have HT3 := Lib.hid (HT2.out.below hb3 HT2.out.lt)
          have HP3 := Lib.hid hp3
          obtain ⟨da, rfl, hda, hdc1, hdc2⟩ := HDC.out w3 (HD2.out.below hb3)
          clear hb3 hp3
          have ha0 : da.add 0 = da := by simp [Addr.add]
          go_wp2_with fail
          refine (HSP.out w3).mono ?_
          rintro e w4 ⟨rfl, hb4⟩
          have HB4 := Lib.hid (below_then HB3.out hb4)
          have HT4 := Lib.hid (HT3.out.below hb4 HT3.out.lt)
          have HP4 := Lib.hid (IsB.below HP3.out hb4)
          clear hb4 hdc1 hdc2 hda ha0
          go_wp2
          obtain ⟨ad, rfl, had, _⟩ := HC0.out w4 HB4.out
          refine wp_region_list [.is (.int .i64 (G : Int)), .is (.slice (some ad) n c), .is (.int .i64 (n : Int)), .bytes (dheadN 3 G n), .is (.slice (some ad) n c), .is (.pointer (some (ad.add 0))), .is (.int .i64 x0), .is (.bool false), .bytes (dheadN 3 G n ++ vput (vint x0 false)), .bytes (dheadN 3 G n ++ vput (vint x0 false))] [some 55, some 56, some 57, some 58, some 59, some 60, some 61, some 62, some 63, some 13] (by kernel_rfl) (by kernel_rfl) (by kernel_rfl) rfl ⟨?_, ?_, ?_, ?_, ?_, ?_, ?_, ?_, ?_, ?_, trivial⟩ ?_
          · intro ρ W1 hb1 H
            exact gives_move rfl (H.old 8 _ (by kernel_rfl) rfl) ⟨rfl, Below.refl _ _⟩
          · intro ρ W1 hb1 H
            exact gives_move rfl (H.old 0 _ (by kernel_rfl) rfl) ⟨rfl, Below.refl _ _⟩
          · intro ρ W1 hb1 H
            exact gives_len Tryz.underlying47 rfl (H.new 56 1 (by kernel_rfl)) ⟨rfl, Below.refl _ _⟩
          · intro ρ W1 hb1 H
            have e0 : ρ (.tmp 55) = .int .i64 (G : Int) := H.new 55 0 (by kernel_rfl)
            have e1 : ρ (.tmp 57) = .int .i64 (n : Int) := H.new 57 2 (by kernel_rfl)
            refine gives_call rfl (fun _ _ => by kernel_rfl) (H.func _) (args := #[.int .i64 3, .int .i64 (G : Int), .int .i64 (n : Int)]) (by simp [e0, e1, H.const]) ?_
            have hG := HG31.out
            refine (dhead_any 3 (G : Int) (n : Int) W1 (HT4.out.below hb1 HT4.out.lt) (by unfold inInt; omega) (by unfold inInt; omega) (by unfold inInt; omega)).mono ?_
            rintro e w' ⟨u, h1, h2, h3⟩
            rw [show ((3 : Int)) = ((3 : Nat) : Int) from rfl, dhead_in (by omega) hG (by omega) (by omega)] at h2
            exact ⟨_, h1, h2, h3⟩
          · intro ρ W1 hb1 H
            exact gives_move rfl (H.old 0 _ (by kernel_rfl) rfl) ⟨rfl, Below.refl _ _⟩
          · intro ρ W1 hb1 H
            exact gives_index (k := 0) elemI rfl (H.new 59 4 (by kernel_rfl)) (H.const _) (by omega) ⟨rfl, Below.refl _ _⟩
          · intro ρ W1 hb1 H
            obtain ⟨ad', e1, _, e2⟩ := HC0.out W1 (below_then HB4.out hb1)
            injection e1 with e1
            subst e1
            exact gives_load rfl (H.new 60 5 (by kernel_rfl)) Tryz.underlying3 rfl e2 ⟨rfl, Below.refl _ _⟩
          · intro ρ W1 hb1 H
            exact gives_move rfl (H.old 1 _ (by kernel_rfl) rfl) ⟨rfl, Below.refl _ _⟩
          · intro ρ W1 hb1 H
            have e0 : IsB (dheadN 3 G n) (ρ (.tmp 58)) W1 := H.new 58 3 (by kernel_rfl)
            have e1 : ρ (.tmp 61) = .int .i64 x0 := H.new 61 6 (by kernel_rfl)
            have e2 : ρ (.tmp 62) = .bool false := H.new 62 7 (by kernel_rfl)
            obtain ⟨hv, hhv⟩ : ∃ hv, hv = ρ (.tmp 58) := ⟨_, rfl⟩
            rw [← hhv] at e0
            refine gives_call rfl (fun _ _ => by kernel_rfl) (H.func _) (args := #[hv, .int .i64 x0, .bool false]) (by simp [hhv, e1, e2]) ?_
            exact (putInt_isB x0 false e0 (by rw [dheadN_len]; omega) HX0.out.1 HX0.out.2).mono fun e w' ⟨u, h1, h2, h3⟩ => ⟨_, h1, h2, h3⟩
          · intro ρ W1 hb1 H
            exact gives_assign rfl rfl ⟨H.new 63 8 (by kernel_rfl), Below.refl _ _⟩
          · intro vs W1 hb1 hfs
            have f9 : IsB (dheadN 3 G n ++ vput (vint x0 false)) (vs 9) W1 := hfs 9 (by decide)
            clear hfs
            simp only [putAll, Nat.zero_add, Nat.reduceAdd]
            generalize vs 0 = z0
            generalize vs 1 = z1
            generalize vs 2 = z2
            generalize vs 3 = z3
            generalize vs 4 = z4
            generalize vs 5 = z5
            generalize vs 6 = z6
            generalize vs 7 = z7
            generalize vs 8 = z8
            generalize vs 9 = z9 at f9 ⊢
            simp only [Act.put, List.setIfInBounds_toArray, List.set_cons_succ, List.set_cons_zero]
            have HO := Lib.hid f9
            have HBa := Lib.hid (below_then HB4.out hb1)
            have HP5 := Lib.hid (IsB.below HP4.out hb1)
            have HLN := Lib.hid (show (dheadN 3 G n ++ vput (vint x0 false)).length ≤ 1000 by rw [List.length_append, dheadN_len]; have := vput_len_10 (x := vint x0 false) (vint_64 HX0.out); omega)
            clear f9 hb1
            go_wp2_with fail
            refine (putInt_isO x1 true HO.out (by have := HLN.out; omega) HX1.out.1 HX1.out.2).mono ?_
            rintro e w6 ⟨v6, rfl, hown6, hb6⟩
            have hp6 := IsB.below HP5.out hb6
            obtain ⟨A7, n7, c7, rfl⟩ := IsV.shape (f := bv) hp6
            obtain ⟨hn7, hA7, -, -, hl7⟩ := IsV.parts (f := bv) (show IsV bv _ _ _ from hp6)
            have hM7 : (tl.map bv).length = n7 := by rw [List.length_map]; exact hn7
            have hn7b : n7 ≤ 5000 := by rw [← hn7]; exact HTB.out
            have HM7 := Lib.hid hM7
            have hzz6 := hb6.size
            obtain ⟨K6, hK6⟩ : ∃ K, K = (dheadN 3 G n ++ vput (vint x0 false) ++ vput (vint x1 true)).length := ⟨_, rfl⟩
            have hK6b : K6 ≤ 2000 := by rw [hK6, List.length_append]; have := vput_len_10 (x := vint x1 true) (vint_64 HX1.out); have := HLN.out; omega
            rw [← hK6] at hown6
            have HK6 := Lib.hid hK6
            obtain ⟨xs6, hx6⟩ : ∃ xs, xs = (dheadN 3 G n ++ vput (vint x0 false) ++ vput (vint x1 true)).map bv := ⟨_, rfl⟩
            rw [← hx6] at hown6
            have HX6 := Lib.hid hx6
            clear hp6 hM7 hn7 hK6 hx6
            go_wp2_with (at_builtin; refine wpList_join elemB rfl _ _ rfl W1.heap.size _ _ _ _ _ _ (tl.map bv) W1 rfl rfl hA7 HM7.out hl7 (bv_one _) hown6 hb6 hzz6 (by omega) (by omega) ?_)
            intro v8 w8 hown8 hb8 _ _
            have HI9 := Lib.hid (show w8.ownsRow w.heap.size 5 1 v8 (dheadN 3 G n ++ vput (vint x0 false) ++ vput (vint x1 true) ++ tl).length ((dheadN 3 G n ++ vput (vint x0 false) ++ vput (vint x1 true) ++ tl).map bv) by
              rw [List.map_append, ← HX6.out, List.length_append, ← HK6.out, show tl.length = n7 by have := HM7.out; rwa [List.length_map] at this]
              exact own_base HBa.out.size hown8)
            have HB9 := Lib.hid (below_then HBa.out hb8)
            clear hown8 hb8 hown6 hzz6
            go_wp2
            go_ret2
            rw [HE2.out]
            exact ⟨_, rfl, HI9.out, HB9.out⟩
      · have hE := Lib.hid (gputE_none (s := false) (show gsizes l (gfalls l) (l.length - 1) = none from gsizes_none (k := i) (by omega) (gat_bad hbad)))
        clear hi hbad
        go_wp2
        go_ret2
        rw [hE.out]
        exact RetEO.nil _ hb1
theorem tput_any (l : List Int) (v : Value) (s : Bool) (w : World) (ht : WTab w) (hv : IsV iv l v w) (hl : ∀ x ∈ l, inInt x) (hb : l.length ≤ 1000000) : Calls Tryz.prog 126 #[v, .bool s] w (RetE w (gputE l s)) := (tput_own l v s w ht hv hl hb).mono fun _ _ h => h.e
end Go.Proofs.YtblpkmmhmdpkjaaGreatDoor

/- delta's own contracts: Take; all four together. -/



namespace Go.Proofs.YtblpkmmhmdpkjaaGreatDoor

open Go.RowKit

end Go.Proofs.YtblpkmmhmdpkjaaGreatDoor

/- Numbers of which a few are great (layer 10), as plain mathematics. -/



namespace Go.Proofs.YtblpkmmhmdpkjaaGreatDoor

/-- The least one. -/
def pbase (l : List Int) : Int := l.foldl min (l.headD 0)
theorem foldl_min_le : ∀ (l : List Int) (n : Int), l.foldl min n ≤ n ∧ ∀ x ∈ l, l.foldl min n ≤ x
  | [], n => ⟨Int.le_refl _, fun _ h => by cases h⟩
  | y :: l, n => by
    have h := foldl_min_le l (min n y)
    rw [List.foldl_cons]
    refine ⟨by omega, fun x hx => ?_⟩
    rcases List.mem_cons.1 hx with rfl | hx
    · omega
    · exact h.2 x hx
theorem foldl_min_mem : ∀ (l : List Int) (n : Int), l.foldl min n = n ∨ l.foldl min n ∈ l
  | [], n => .inl rfl
  | y :: l, n => by
    rw [List.foldl_cons]
    rcases foldl_min_mem l (min n y) with h | h
    · by_cases hn : n ≤ y
      · left; omega
      · right; rw [h, show min n y = y by omega]; exact List.mem_cons_self
    · exact .inr (List.mem_cons_of_mem _ h)
theorem pbase_le {l : List Int} {x : Int} (h : x ∈ l) : pbase l ≤ x := (foldl_min_le l _).2 x h
theorem pbase_mem {l : List Int} (h : 1 ≤ l.length) : pbase l ∈ l := by
  unfold pbase
  rcases foldl_min_mem l (l.headD 0) with h2 | h2
  · rw [h2]
    cases l with
    | nil => simp at h
    | cons a t => exact List.mem_cons_self
  · exact h2
def pone (base x : Int) : Option Nat := if (gdiff base x).2.2 = true then some (gdiff base x).1 else none
def pups (l : List Int) : Option (List Nat) := omap (pone (pbase l)) l
theorem pone_step {base x : Int} {u : Nat} (hx : inInt x) (hle : base ≤ x) (h : pone base x = some u) : gstep base u false = (x, true) ∧ (u : Int) < 9223372036854775808 := by
  unfold pone at h
  split at h
  · rename_i hk
    injection h with h
    subst h
    have h1 := gstep_gdiff (a := base) hx hk
    have h2 : (gdiff base x).2.1 = false := by
      rcases gdiff_cases base x with ⟨k, _⟩ | ⟨k1, _, _⟩ | ⟨_, _, k⟩
      · rw [k]
      · omega
      · rw [k]
    rw [h2] at h1
    exact ⟨h1, gdiff_lt base x⟩
  · cases h
theorem pups_len {l : List Int} {us : List Nat} (h : pups l = some us) : us.length = l.length := omap_len h
theorem pups_lt {l : List Int} {us : List Nat} (hl : ∀ x ∈ l, inInt x) (h : pups l = some us) : ∀ u ∈ us, (u : Int) < 9223372036854775808 := by
  intro u hu
  obtain ⟨x, hx, hu⟩ := omap_mem h hu
  exact (pone_step (hl x hx) (pbase_le hx) hu).2
/-- Pairs of a gap and a patch, of the first k numbers; and where the last one stands that is patched. -/
def pst (w : Nat) (us : List Nat) : Nat → List (Nat × Nat) × Nat
  | 0 => ([], 0)
  | k + 1 =>
    if us.getD k 0 / 2 ^ w = 0 then pst w us k
    else ((pst w us k).1 ++ (List.replicate ((k - (pst w us k).2 - 1) / 255) (255, 0) ++ [(k - (pst w us k).2 - 255 * ((k - (pst w us k).2 - 1) / 255), us.getD k 0 / 2 ^ w)]), k)
theorem pst_skip {w : Nat} {us : List Nat} {k : Nat} (h : us.getD k 0 / 2 ^ w = 0) : pst w us (k + 1) = pst w us k := by rw [pst, if_pos h]
theorem pst_more {w : Nat} {us : List Nat} {k : Nat} (h : us.getD k 0 / 2 ^ w ≠ 0) : pst w us (k + 1) = ((pst w us k).1 ++ (List.replicate ((k - (pst w us k).2 - 1) / 255) (255, 0) ++ [(k - (pst w us k).2 - 255 * ((k - (pst w us k).2 - 1) / 255), us.getD k 0 / 2 ^ w)]), k) := by rw [pst, if_neg h]
theorem pst_last (w : Nat) (us : List Nat) : ∀ k, (pst w us k).2 ≤ k
  | 0 => Nat.le_refl _
  | k + 1 => by
    have := pst_last w us k
    by_cases h : us.getD k 0 / 2 ^ w = 0
    · rw [pst_skip h]; omega
    · rw [pst_more h]; exact Nat.le_succ k
theorem pst_gap (w : Nat) (us : List Nat) : ∀ k, ∀ q ∈ (pst w us k).1, q.1 ≤ 255 ∧ (q.2 = 0 ∨ ∃ i, i < k ∧ q.2 = us.getD i 0 / 2 ^ w)
  | 0 => fun q hq => by cases hq
  | k + 1 => by
    intro q hq
    have ih := pst_gap w us k
    by_cases h : us.getD k 0 / 2 ^ w = 0
    · rw [pst_skip h] at hq
      obtain ⟨h1, h2⟩ := ih q hq
      exact ⟨h1, h2.imp id fun ⟨i, hi, h3⟩ => ⟨i, by omega, h3⟩⟩
    · rw [pst_more h] at hq
      simp only [List.mem_append, List.mem_replicate, List.mem_singleton] at hq
      rcases hq with hq | ⟨_, hq⟩ | hq
      · obtain ⟨h1, h2⟩ := ih q hq
        exact ⟨h1, h2.imp id fun ⟨i, hi, h3⟩ => ⟨i, by omega, h3⟩⟩
      · subst hq; exact ⟨Nat.le_refl _, .inl rfl⟩
      · subst hq; exact ⟨by dsimp only; omega, .inr ⟨k, by omega, rfl⟩⟩
def ppairs (w : Nat) (us : List Nat) : List (Nat × Nat) := (pst w us us.length).1
/-- The gap's width, and the patch's. -/
def pgw (ps : List (Nat × Nat)) : Nat := max 1 (wmost (ps.map (·.1)))
def ppw (ps : List (Nat × Nat)) : Nat := (wclosest (max 1 (wmost (ps.map (·.2))) : Nat)).toNat
def pcode (w : Nat) : Nat := (wcode (w : Int)).toNat
theorem wclose_all : ∀ n : Fin 65, 1 ≤ wclosest (n.val : Int) ∧ wclosest (n.val : Int) ≤ 64 ∧ (n.val : Int) ≤ wclosest (n.val : Int) ∧ 0 ≤ wcode (wclosest (n.val : Int)) ∧ wcode (wclosest (n.val : Int)) ≤ 31 ∧ wof (wcode (wclosest (n.val : Int))) = wclosest (n.val : Int) := by decide +kernel
theorem pclose {n : Nat} (h : n ≤ 64) : 1 ≤ (wclosest (n : Int)).toNat ∧ (wclosest (n : Int)).toNat ≤ 64 ∧ n ≤ (wclosest (n : Int)).toNat ∧ pcode (wclosest (n : Int)).toNat ≤ 31 ∧ wof (pcode (wclosest (n : Int)).toNat : Int) = ((wclosest (n : Int)).toNat : Int) ∧ wclosest (n : Int) = ((wclosest (n : Int)).toNat : Int) ∧ wcode ((wclosest (n : Int)).toNat : Int) = (pcode (wclosest (n : Int)).toNat : Int) := by
  have h1 := wclose_all ⟨n, by omega⟩
  dsimp only at h1
  have e : wclosest (n : Int) = ((wclosest (n : Int)).toNat : Int) := by omega
  have e2 : wcode ((wclosest (n : Int)).toNat : Int) = (pcode (wclosest (n : Int)).toNat : Int) := by unfold pcode; rw [← e]; omega
  refine ⟨by omega, by omega, by omega, ?_, ?_, e, e2⟩
  · rw [← e] at e2; omega
  · rw [← e2, ← e]; exact h1.2.2.2.2.2
theorem ppw_ok {w : Nat} {us : List Nat} (hu : ∀ u ∈ us, u < 2 ^ 64) : wmost ((ppairs w us).map (·.2)) ≤ 64 ∧ wmost ((ppairs w us).map (·.1)) ≤ 8 ∧ (∀ q ∈ ppairs w us, q.1 ≤ 255 ∧ q.2 < 2 ^ 64) := by
  have hq : ∀ q ∈ ppairs w us, q.1 ≤ 255 ∧ q.2 < 2 ^ 64 := by
    intro q hq
    obtain ⟨h1, h2⟩ := pst_gap w us us.length q hq
    refine ⟨h1, ?_⟩
    rcases h2 with h2 | ⟨i, hi, h2⟩
    · rw [h2]; exact Nat.two_pow_pos _
    · rw [h2, List.getD_eq_getElem?_getD, List.getElem?_eq_getElem hi]
      exact Nat.lt_of_le_of_lt (Nat.div_le_self _ _) (hu _ (List.getElem_mem hi))
  refine ⟨wmost_64 fun x hx => ?_, ?_, hq⟩
  · obtain ⟨q, hm, rfl⟩ := List.mem_map.1 hx
    exact (hq q hm).2
  · have h64 : ∀ x ∈ (ppairs w us).map (·.1), x < 2 ^ 64 := fun x hx => by
      obtain ⟨q, hm, rfl⟩ := List.mem_map.1 hx
      exact Nat.lt_of_le_of_lt (hq q hm).1 (by decide)
    rw [← wtop_bits h64]
    refine wbits_le (by omega) ?_
    have : ∀ (l : List Nat) (n : Nat), n ≤ 255 → (∀ x ∈ l, x ≤ 255) → l.foldl (fun n x => max n x) n ≤ 255 := by
      intro l
      induction l with
      | nil => intro n hn _; exact hn
      | cons y l ih => intro n hn h; rw [List.foldl_cons]; exact ih _ (by have := h y List.mem_cons_self; omega) fun x hx => h x (List.mem_cons_of_mem _ hx)
    have h2 := this ((ppairs w us).map (·.1)) 0 (by omega) fun x hx => by
      obtain ⟨q, hm, rfl⟩ := List.mem_map.1 hx
      exact (hq q hm).1
    unfold wtop
    show _ < 256
    omega
/-- A base as bytes. -/
def psize (base : Int) : Nat := (gdiff 0 base).1
def pn (base : Int) : Nat := wbits (psize base) / 8 + 1
def pbased (base : Int) : List UInt8 := be (pn base) (psize base + if base < 0 then 2 ^ (8 * pn base - 1) else 0)
def plow (us : List Nat) (w : Nat) : List Nat := us.map (· % 2 ^ w)
def pboth (ps : List (Nat × Nat)) (p : Nat) : List Nat := ps.map fun q => q.1 * 2 ^ p + q.2
def pheadb (base : Int) (ps : List (Nat × Nat)) : List UInt8 := [UInt8.ofNat (32 * (pn base - 1) + pcode (ppw ps)), UInt8.ofNat (32 * (pgw ps - 1) + ps.length)]
def play (base : Int) (us : List Nat) (w : Nat) : List UInt8 :=
  dheadN 2 (pcode w) us.length ++ pheadb base (ppairs w us) ++ pbased base ++ bpack (plow us w) w ++ bpack (pboth (ppairs w us) (ppw (ppairs w us))) (wclosest ((pgw (ppairs w us) + ppw (ppairs w us) : Nat) : Int)).toNat
/-- What Put answers. -/
def pputE (l : List Int) (W : Int) (s : Bool) : List UInt8 × Int :=
  if dplain l s = none ∨ l.length < 1 ∨ 512 < l.length ∨ wcode W < 0 ∨ 64 ≤ W then ([], 1)
  else match pups l with
    | none => ([], 1)
    | some us =>
      if pbase l = -9223372036854775808 ∨ 31 < (ppairs W.toNat us).length ∨ 64 < pgw (ppairs W.toNat us) + ppw (ppairs W.toNat us) ∨ 64 < W.toNat + ppw (ppairs W.toNat us) then ([], 1)
      else (play (pbase l) us W.toNat, 0)
/-- One pair is laid upon the numbers. -/
def pstep (w g p m : Nat) (st : Nat × List Nat) (v : Nat) : Option (Nat × List Nat) :=
  if v / 2 ^ p < 2 ^ g ∧ st.1 + v / 2 ^ p < m ∧ (wbits (v % 2 ^ p) + w ≤ 63 ∨ v % 2 ^ p = 0) then
    some (st.1 + v / 2 ^ p, st.2.set (st.1 + v / 2 ^ p) (st.2.getD (st.1 + v / 2 ^ p) 0 ^^^ (v % 2 ^ p * 2 ^ w)))
  else none
def pall (w g p m : Nat) : Nat × List Nat → List Nat → Option (Nat × List Nat)
  | st, [] => some st
  | st, v :: vs => match pstep w g p m st v with | none => none | some st' => pall w g p m st' vs
theorem pall_append (w g p m : Nat) (st : Nat × List Nat) (a b : List Nat) : pall w g p m st (a ++ b) = match pall w g p m st a with | none => none | some st' => pall w g p m st' b := by
  induction a generalizing st with
  | nil => rfl
  | cons v vs ih =>
    rw [List.cons_append, pall, pall]
    cases pstep w g p m st v with
    | none => rfl
    | some st' => exact ih st'
/-- What Take answers. -/
def pend (s : Bool) (base : Int) (w g p m : Nat) (low both : List Nat) (q : List UInt8) : List Int × List UInt8 × Int :=
  match pall w g p m (0, low) both with
  | none => gbad
  | some st => match omap (gnext s false base) st.2 with | none => gbad | some xs => (xs, q, 0)
def pbits (s : Bool) (base : Int) (c m : Int) (g p some_ : Nat) (r : List UInt8) : List Int × List UInt8 × Int :=
  match unpacksAny r m (wof c) with
  | (low, r3, e) => if e ≠ 0 then gbad else match unpacksAny r3 some_ (wclosest ((g + p : Nat) : Int)) with
    | (both, r4, e) => if e ≠ 0 then gbad else pend s base (wof c).toNat g p m.toNat low both r4
/-- The base that bytes are. -/
def pmade (x : List UInt8) : Int := if 2 ^ (8 * x.length - 1) ≤ bval x then -((bval x % 2 ^ (8 * x.length - 1) : Nat) : Int) else ((bval x % 2 ^ (8 * x.length - 1) : Nat) : Int)
def pbody (s : Bool) (c m : Int) (r : List UInt8) : List Int × List UInt8 × Int :=
  if r.length < 2 then gbad
  else if 64 < (r.getD 1 0).toNat / 32 + 1 + (wof ((r.getD 0 0).toNat % 32 : Nat)).toNat ∨ r.length - 2 < (r.getD 0 0).toNat / 32 + 1 then gbad
  else pbits s (pmade ((r.drop 2).take ((r.getD 0 0).toNat / 32 + 1))) c m ((r.getD 1 0).toNat / 32 + 1) (wof ((r.getD 0 0).toNat % 32 : Nat)).toNat ((r.getD 1 0).toNat % 32) ((r.drop 2).drop ((r.getD 0 0).toNat / 32 + 1))
def ptakeE (l : List UInt8) (s : Bool) : List Int × List UInt8 × Int :=
  if (dlook l).2.2.2.2 ≠ 0 ∨ (dlook l).1 ≠ 2 then gbad else pbody s (dlook l).2.1 (dlook l).2.2.1 (dlook l).2.2.2.1

/-- The bits below a place, and those above: together. -/
theorem xor_join (w a b : Nat) (ha : a < 2 ^ w) : a ^^^ (b * 2 ^ w) = a + b * 2 ^ w := by
  refine Nat.eq_of_testBit_eq fun i => ?_
  rw [Nat.testBit_xor, Nat.mul_comm b, Nat.add_comm a, Nat.testBit_two_pow_mul_add b ha]
  by_cases h : i < w
  · rw [if_pos h, Nat.testBit_two_pow_mul, decide_eq_false (by omega : ¬ w ≤ i)]
    simp
  · rw [if_neg h, Nat.testBit_two_pow_mul, decide_eq_true (by omega : w ≤ i)]
    have h2 : a.testBit i = false := Nat.testBit_lt_two_pow (Nat.lt_of_lt_of_le ha (Nat.pow_le_pow_right (by omega) (by omega)))
    rw [h2]
    simp
theorem patch_back (u w : Nat) : (u % 2 ^ w) ^^^ (u / 2 ^ w * 2 ^ w) = u := by
  rw [xor_join w _ _ (Nat.mod_lt _ (Nat.two_pow_pos w)), Nat.mul_comm]
  have := Nat.div_add_mod u (2 ^ w)
  omega
theorem pstep_of {w g p m : Nat} {st : Nat × List Nat} {gap patch : Nat} (hp : patch < 2 ^ p) (hg : gap < 2 ^ g) (hm : st.1 + gap < m) (hb : wbits patch + w ≤ 63 ∨ patch = 0) :
    pstep w g p m st (gap * 2 ^ p + patch) = some (st.1 + gap, st.2.set (st.1 + gap) (st.2.getD (st.1 + gap) 0 ^^^ (patch * 2 ^ w))) := by
  have e1 : (gap * 2 ^ p + patch) / 2 ^ p = gap := by rw [Nat.mul_comm, Nat.mul_add_div (Nat.two_pow_pos p), Nat.div_eq_of_lt hp, Nat.add_zero]
  have e2 : (gap * 2 ^ p + patch) % 2 ^ p = patch := by rw [Nat.mul_comm, Nat.mul_add_mod, Nat.mod_eq_of_lt hp]
  unfold pstep
  rw [e1, e2, if_pos ⟨hg, hm, hb⟩]
theorem set_same {low : List Nat} {k : Nat} : low.set k (low.getD k 0) = low := by
  by_cases h : k < low.length
  · rw [List.getD_eq_getElem?_getD, List.getElem?_eq_getElem h, Option.getD_some]; exact List.set_getElem_self h
  · exact List.set_eq_of_length_le (by omega)
/-- Pairs of the gap 255 and the patch 0 go on and change nothing. -/
theorem pall_fill {w g p m : Nat} (hg : 255 < 2 ^ g) : ∀ (j at_ : Nat) (low : List Nat), at_ + 255 * j < m → pall w g p m (at_, low) (pboth (List.replicate j (255, 0)) p) = some (at_ + 255 * j, low)
  | 0, at_, low, _ => by simp [pboth, pall]
  | j + 1, at_, low, h => by
    have hm : (at_, low).1 + 255 < m := Nat.lt_of_le_of_lt (Nat.add_le_add_left (by omega : 255 ≤ 255 * (j + 1)) at_) h
    have h1 := pstep_of (w := w) (p := p) (patch := 0) (Nat.two_pow_pos p) hg hm (.inr rfl)
    have h2 := pall_fill (w := w) (p := p) hg j (at_ + 255) low (by omega : at_ + 255 + 255 * j < m)
    rw [Nat.zero_mul, Nat.xor_zero, set_same] at h1
    dsimp only at h1
    unfold pboth at h2 ⊢
    rw [List.replicate_succ, List.map_cons, pall, h1]
    dsimp only
    rw [h2]
    congr 2
    omega
/-- What is patched of the first k numbers makes these again. -/
theorem pall_st {w g p : Nat} {us : List Nat} (hu : ∀ u ∈ us, (u : Int) < 9223372036854775808) (hw : w ≤ 63) : ∀ k, k ≤ us.length → (∀ q ∈ (pst w us k).1, q.1 < 2 ^ g ∧ q.2 < 2 ^ p) →
    pall w g p us.length (0, plow us w) (pboth (pst w us k).1 p) = some ((pst w us k).2, us.take k ++ (plow us w).drop k)
  | 0, _, _ => by simp [pst, pboth, pall]
  | k + 1, hk, h => by
    have hll : (plow us w).length = us.length := by simp [plow]
    have hkl : k < (plow us w).length := by omega
    have hd : (plow us w).drop k = (us[k] % 2 ^ w) :: (plow us w).drop (k + 1) := by rw [List.drop_eq_getElem_cons hkl]; simp [plow]
    have hgd : us.getD k 0 = us[k] := by rw [List.getD_eq_getElem?_getD, List.getElem?_eq_getElem (by omega)]; rfl
    by_cases h0 : us.getD k 0 / 2 ^ w = 0
    · rw [pst_skip h0] at h ⊢
      rw [pall_st hu hw k (by omega) h, hd, List.take_succ_eq_append_getElem (by omega), List.append_assoc]
      rw [hgd] at h0
      have : us[k] % 2 ^ w = us[k] := by have := Nat.div_add_mod us[k] (2 ^ w); rw [h0] at this; omega
      rw [this]
      rfl
    · rw [pst_more h0] at h ⊢
      have hlast := pst_last w us k
      obtain ⟨last, hl⟩ : ∃ last, last = (pst w us k).2 := ⟨_, rfl⟩
      obtain ⟨j, hj⟩ : ∃ j, j = (k - last - 1) / 255 := ⟨_, rfl⟩
      rw [← hl, ← hj] at h ⊢
      rw [← hl] at hlast
      have hih := pall_st hu hw k (by omega) fun q hq => h q (List.mem_append_left _ hq)
      have hone := h (k - last - 255 * j, us.getD k 0 / 2 ^ w) (List.mem_append_right _ (List.mem_append_right _ (List.mem_singleton.2 rfl)))
      rw [pboth, List.map_append, List.map_append, pall_append, ← pboth, hih]
      dsimp only
      rw [← hl, pall_append, ← pboth]
      have hfill : pall w g p us.length (last, us.take k ++ (plow us w).drop k) (pboth (List.replicate j (255, 0)) p) = some (last + 255 * j, us.take k ++ (plow us w).drop k) := by
        by_cases hj0 : j = 0
        · subst hj0; rfl
        · have h255 : 255 < 2 ^ g := (h (255, 0) (List.mem_append_right _ (List.mem_append_left _ (List.mem_replicate.2 ⟨hj0, rfl⟩)))).1
          exact pall_fill h255 j last _ (by omega)
      rw [hfill]
      dsimp only
      rw [List.map_cons, List.map_nil, pall]
      have hb : wbits (us.getD k 0 / 2 ^ w) + w ≤ 63 := by
        have h1 : us.getD k 0 / 2 ^ w < 2 ^ (63 - w) := by
          rw [Nat.div_lt_iff_lt_mul (Nat.two_pow_pos w), ← Nat.pow_add, show 63 - w + w = 63 by omega, hgd]
          have := hu us[k] (List.getElem_mem _)
          show us[k] < 9223372036854775808
          omega
        have := wbits_le (by omega) h1
        omega
      rw [pstep_of hone.2 hone.1 (by dsimp only; omega) (.inl hb)]
      dsimp only
      rw [show last + 255 * j + (k - last - 255 * j) = k by omega, pall]
      congr 2
      have htl : (us.take k).length = k := by rw [List.length_take]; omega
      rw [hd, List.getD_eq_getElem?_getD, List.getElem?_append_right (by omega), htl, Nat.sub_self, List.getElem?_cons_zero, Option.getD_some, hgd, patch_back, List.set_append_right _ _ (by omega), htl, Nat.sub_self, List.set_cons_zero, List.take_succ_eq_append_getElem (by omega), List.append_assoc]
      rfl
theorem wcode_back {x : Int} (h : 0 ≤ wcode x) : wof (wcode x) = x ∧ wcode x ≤ 31 := by
  refine ⟨?_, (wcode_bd x).2⟩
  unfold wcode at h ⊢
  cases hf : (List.range 32).find? fun i => wat i == x with
  | none => rw [hf] at h; dsimp only at h; omega
  | some i =>
    dsimp only
    have h1 := List.find?_some hf
    have h2 := List.mem_range.1 (List.mem_of_find?_eq_some hf)
    rw [wof_in h2]
    simpa using h1
theorem pcode_back {w : Nat} (h : 0 ≤ wcode (w : Int)) : wof (pcode w : Int) = (w : Int) ∧ pcode w ≤ 31 ∧ wcode (w : Int) = (pcode w : Int) := by
  have h1 := wcode_back h
  have e : wcode (w : Int) = (pcode w : Int) := by unfold pcode; omega
  rw [e] at h1
  exact ⟨h1.1, by omega, e⟩
theorem psize_base {base : Int} (h : inInt base) (h2 : base ≠ -9223372036854775808) : (psize base : Int) = (if base < 0 then -base else base) ∧ (psize base : Int) < 9223372036854775808 := by
  unfold inInt at h
  unfold psize
  rcases gdiff_cases 0 base with ⟨_, k⟩ | ⟨k1, k2, k⟩ | ⟨k1, k2, k⟩
  · omega
  · rw [k, if_pos k1]; dsimp only; omega
  · rw [k, if_neg (by omega)]; dsimp only; omega
theorem pn_bd {base : Int} (h : (psize base : Int) < 9223372036854775808) : 1 ≤ pn base ∧ pn base ≤ 8 ∧ psize base < 2 ^ (8 * pn base - 1) := by
  have h1 : psize base < 2 ^ 63 := by show psize base < 9223372036854775808; omega
  have h2 := wbits_le (by omega) h1
  have h3 := wbits_lt (x := psize base) (Nat.lt_trans h1 (by decide))
  unfold pn
  refine ⟨by omega, by omega, Nat.lt_of_lt_of_le h3 (Nat.pow_le_pow_right (by omega) (by omega))⟩
theorem pbased_len (base : Int) : (pbased base).length = pn base := be_len _ _
theorem pbased_bval {base : Int} (h : (psize base : Int) < 9223372036854775808) : bval (pbased base) = psize base + if base < 0 then 2 ^ (8 * pn base - 1) else 0 := by
  obtain ⟨h1, _, h3⟩ := pn_bd h
  unfold pbased
  rw [bval_be, Nat.mod_eq_of_lt]
  rw [p256, show 8 * pn base = (8 * pn base - 1) + 1 by omega, Nat.pow_succ, Nat.add_sub_cancel]
  split <;> omega
theorem pmade_back {base : Int} (h : inInt base) (h2 : base ≠ -9223372036854775808) : pmade (pbased base) = base := by
  obtain ⟨hs, hlt⟩ := psize_base h h2
  obtain ⟨_, _, h3⟩ := pn_bd hlt
  unfold pmade
  rw [pbased_len, pbased_bval hlt]
  generalize 2 ^ (8 * pn base - 1) = P at *
  by_cases hb : base < 0
  · rw [if_pos hb] at hs ⊢
    rw [if_pos (by omega), Nat.add_mod_right, Nat.mod_eq_of_lt h3]
    omega
  · rw [if_neg hb] at hs ⊢
    rw [if_neg (by omega), Nat.add_zero, Nat.mod_eq_of_lt h3]
    omega
theorem wtop_bound {l : List Nat} (h : ∀ x ∈ l, x < 2 ^ 64) {x : Nat} (hx : x ∈ l) : x < 2 ^ wmost l := by
  have h1 := (wbits_iff (wtop_lt h) (wmost_64 h)).1 (by rw [wtop_bits h]; exact Nat.le_refl _)
  exact Nat.lt_of_le_of_lt (wtop_mem hx) h1
/-- What is known of the pairs of numbers. -/
theorem ppairs_ok {w : Nat} {us : List Nat} (hu : ∀ u ∈ us, u < 2 ^ 64) :
    1 ≤ pgw (ppairs w us) ∧ pgw (ppairs w us) ≤ 8 ∧ 1 ≤ ppw (ppairs w us) ∧ ppw (ppairs w us) ≤ 64 ∧ wclosest ((max 1 (wmost ((ppairs w us).map (·.2))) : Nat) : Int) = (ppw (ppairs w us) : Int) ∧ wcode (ppw (ppairs w us) : Int) = (pcode (ppw (ppairs w us)) : Int) ∧ pcode (ppw (ppairs w us)) ≤ 31 ∧ wof (pcode (ppw (ppairs w us)) : Int) = (ppw (ppairs w us) : Int) ∧
    ∀ q ∈ ppairs w us, q.1 < 2 ^ pgw (ppairs w us) ∧ q.2 < 2 ^ ppw (ppairs w us) := by
  obtain ⟨h1, h2, h3⟩ := ppw_ok (w := w) hu
  obtain ⟨c1, c2, c3, c4, c5, c6, c7⟩ := pclose (n := max 1 (wmost ((ppairs w us).map (·.2)))) (by omega)
  have hg : pgw (ppairs w us) = max 1 (wmost ((ppairs w us).map (·.1))) := rfl
  refine ⟨by omega, by omega, c1, c2, c6, c7, c4, c5, fun q hq => ⟨?_, ?_⟩⟩
  · have := wtop_bound (l := (ppairs w us).map (·.1)) (fun x hx => by
      obtain ⟨q, hm, rfl⟩ := List.mem_map.1 hx
      exact Nat.lt_of_le_of_lt (h3 q hm).1 (by decide)) (List.mem_map_of_mem hq)
    exact Nat.lt_of_lt_of_le this (Nat.pow_le_pow_right (by omega) (by omega))
  · have := wtop_bound (l := (ppairs w us).map (·.2)) (fun x hx => by
      obtain ⟨q, hm, rfl⟩ := List.mem_map.1 hx
      exact (h3 q hm).2) (List.mem_map_of_mem hq)
    refine Nat.lt_of_lt_of_le this (Nat.pow_le_pow_right (by omega) ?_)
    show _ ≤ (wclosest ((max 1 (wmost ((ppairs w us).map (·.2))) : Nat) : Int)).toNat
    omega
theorem pboth_lt {ps : List (Nat × Nat)} {g p : Nat} (h : ∀ q ∈ ps, q.1 < 2 ^ g ∧ q.2 < 2 ^ p) : ∀ x ∈ pboth ps p, x < 2 ^ (g + p) := by
  intro x hx
  obtain ⟨q, hq, rfl⟩ := List.mem_map.1 hx
  obtain ⟨h1, h2⟩ := h q hq
  have : (q.1 + 1) * 2 ^ p ≤ 2 ^ g * 2 ^ p := Nat.mul_le_mul_right _ h1
  rw [Nat.pow_add]
  rw [Nat.add_mul] at this
  omega
theorem byte_low {n : Nat} (h : n < 256) : (UInt8.ofNat n).toNat = n := by simp only [UInt8.toNat_ofNat', Nat.reducePow]; exact Nat.mod_eq_of_lt h
/-- P10.3. -/
theorem ptake_back {l : List Int} {s : Bool} {us : List Nat} {w : Nat} (hl : ∀ x ∈ l, inInt x ∧ (s = true ∨ 0 ≤ x)) (h1 : 1 ≤ l.length) (h5 : l.length ≤ 512) (hc : 0 ≤ wcode (w : Int)) (hw : w < 64) (hu : pups l = some us)
    (hb : pbase l ≠ -9223372036854775808) (h31 : (ppairs w us).length ≤ 31) (hgp : pgw (ppairs w us) + ppw (ppairs w us) ≤ 64) (b : List UInt8) : ptakeE (play (pbase l) us w ++ b) s = (l, b, 0) := by
  have hbi : inInt (pbase l) := (hl _ (pbase_mem h1)).1
  obtain ⟨hs, hlt⟩ := psize_base hbi hb
  obtain ⟨n1, n8, _⟩ := pn_bd hlt
  have hu63 := pups_lt (fun x hx => (hl x hx).1) hu
  have hu64 : ∀ u ∈ us, u < 2 ^ 64 := fun u h => by have := hu63 u h; show u < 18446744073709551616; omega
  obtain ⟨g1, g8, p1, p64, _, _, pc, pw, hq⟩ := ppairs_ok (w := w) hu64
  obtain ⟨cw, c31, _⟩ := pcode_back hc
  have hul := pups_len hu
  obtain ⟨W2, hW2⟩ : ∃ W2, W2 = (wclosest ((pgw (ppairs w us) + ppw (ppairs w us) : Nat) : Int)).toNat := ⟨_, rfl⟩
  obtain ⟨_, d2, d3, _, _, d6, _⟩ := pclose hgp
  rw [← hW2] at d2 d3 d6
  have hbl := pboth_lt hq
  have hbl2 : ∀ x ∈ pboth (ppairs w us) (ppw (ppairs w us)), x < 2 ^ W2 := fun x hx => Nat.lt_of_lt_of_le (hbl x hx) (Nat.pow_le_pow_right (by omega) d3)
  have hst := pall_st (w := w) (g := pgw (ppairs w us)) (p := ppw (ppairs w us)) hu63 (by omega) us.length (Nat.le_refl _) hq
  have hpe : pboth (pst w us us.length).1 (ppw (ppairs w us)) = pboth (ppairs w us) (ppw (ppairs w us)) := rfl
  rw [hpe, List.take_of_length_le (Nat.le_refl _), List.drop_eq_nil_of_le (by simp [plow]), List.append_nil] at hst
  have hback : omap (gnext s false (pbase l)) us = some l := omap_back (fun x hx u h => by
    have h2 := pone_step (hl x hx).1 (pbase_le hx) h
    unfold gnext
    rw [h2.1]
    exact if_pos ⟨rfl, (hl x hx).2⟩) hu
  have hll : (plow us w).length = us.length := by simp [plow]
  have hpl : (pboth (ppairs w us) (ppw (ppairs w us))).length = (ppairs w us).length := by simp [pboth]
  generalize hps : ppairs w us = ps at *
  generalize hpp : ppw ps = p at *
  generalize hgg : pgw ps = g at *
  have e0 : (UInt8.ofNat (32 * (pn (pbase l) - 1) + pcode p)).toNat = 32 * (pn (pbase l) - 1) + pcode p := byte_low (by omega)
  have e1 : (UInt8.ofNat (32 * (g - 1) + ps.length)).toNat = 32 * (g - 1) + ps.length := byte_low (by omega)
  have hlook : dlook (play (pbase l) us w ++ b) = (2, (pcode w : Int), (us.length : Int), UInt8.ofNat (32 * (pn (pbase l) - 1) + pcode p) :: UInt8.ofNat (32 * (g - 1) + ps.length) :: (pbased (pbase l) ++ (bpack (plow us w) w ++ (bpack (pboth ps p) W2 ++ b))), 0) := by
    unfold play pheadb
    rw [hps, hpp, hgg, ← hW2]
    simp only [List.append_assoc, List.cons_append, List.nil_append]
    exact dlook_head (k := 2) (by omega) c31 (by omega) (by omega) _
  unfold ptakeE
  rw [hlook]
  dsimp only
  rw [if_neg (by omega)]
  unfold pbody
  simp only [List.getD_cons_zero, List.getD_cons_succ, List.drop_succ_cons, List.drop_zero, List.length_cons, List.length_append, e0, e1, pbased_len]
  rw [if_neg (by omega), show (32 * (pn (pbase l) - 1) + pcode p) % 32 = pcode p by omega, pw, Int.toNat_natCast, show (32 * (pn (pbase l) - 1) + pcode p) / 32 + 1 = pn (pbase l) by omega, show (32 * (g - 1) + ps.length) / 32 + 1 = g by omega, show (32 * (g - 1) + ps.length) % 32 = ps.length by omega,
    if_neg (by omega), List.take_left' (pbased_len _), List.drop_left' (pbased_len _), pmade_back hbi hb]
  unfold pbits
  rw [cw, unpacksAny_in _ _ _ (by omega) (by omega), ← hll, unpacks_back (fun x hx => by
    obtain ⟨u, _, rfl⟩ := List.mem_map.1 hx
    exact Nat.mod_lt _ (Nat.two_pow_pos w))]
  dsimp only
  rw [if_neg (by decide), d6, unpacksAny_in _ _ _ (by omega) d2, ← hpl, unpacks_back hbl2]
  dsimp only
  rw [if_neg (by decide), hll]
  unfold pend
  rw [Int.toNat_natCast, Int.toNat_natCast, hst]
  dsimp only
  rw [hback]
end Go.Proofs.YtblpkmmhmdpkjaaGreatDoor

/- What the walk of layer 10's Take asks, as plain mathematics. -/





namespace Go.Proofs.YtblpkmmhmdpkjaaGreatDoor

open Go.RowKit

end Go.Proofs.YtblpkmmhmdpkjaaGreatDoor

/- Contracts of layer 10's reference: above, pairs, based. -/











namespace Go.Proofs.YtblpkmmhmdpkjaaGreatDoor

open Go.RowKit

/-- What the reference's above answers. -/
def paboveE (l : List Int) : Int × List Nat × Bool := match pups l with | none => (0, [], false) | some us => (pbase l, us, pbase l != -9223372036854775808)
def RetA (w : World) (p : Int × List Nat × Bool) (e : Ending) (w' : World) : Prop := ∃ v, e = .returned (.tuple #[.int .i64 p.1, v, .bool p.2.2]) ∧ IsV uv p.2.1 v w' ∧ Below w.heap.size w w'
def AboveRel (l : List Int) (w : World) (b i : Value) (wr : World) : Prop := ∃ k : Nat, k ≤ l.length ∧ i = .int .i64 (k : Int) ∧ b = .int .i64 ((l.take k).foldl min (l.headD 0)) ∧ wr = w
theorem pdiff_q (a b : Int) (u : Nat) (d o : Bool) (w : World) (ha : inInt a) (hb : inInt b) (h : gdiff a b = (u, d, o)) : Calls Tryz.prog 79 #[.int .i64 a, .int .i64 b] w fun e w' => e = .returned (.tuple #[.int .u64 (u : Int), .bool d, .bool o]) ∧ w = w' := by
  refine (rdiff9_any a b w ha hb).mono ?_
  rintro e w' ⟨h1, h2⟩
  rw [h] at h1
  exact ⟨h1, h2⟩
set_option maxHeartbeats 2000000 in
set_option maxRecDepth 100000 in
theorem rabove_any (l : List Int) (v : Value) (w : World) (hv : IsV iv l v w) (hl : ∀ x ∈ l, inInt x) (h1 : 1 ≤ l.length) (hb : l.length ≤ 1000000) :
    Calls Tryz.prog 81 #[v] w (RetA w (paboveE l)) := by
  have HV := Lib.hid hv
  obtain ⟨A, n, c, rfl⟩ := hv.shape
  have hn := hv.parts.1
  obtain ⟨ad, rfl, had, hc0⟩ := hv.at (k := 0) (by omega)
  have e0 : ad.add 0 = ad := by simp [Addr.add]
  rw [e0] at hc0
  obtain ⟨x0, hx0⟩ : ∃ x, x = l[0] := ⟨_, rfl⟩
  have hcx : w.cell? ad = some (.int .i64 x0) := by rw [hc0, hx0]; rfl
  have HH : Hid (l.headD 0 = x0) := Lib.hid (by rw [hx0]; cases l with | nil => simp at h1 | cons a t => rfl)
  have hbi : inInt (pbase l) := hl _ (pbase_mem h1)
  have HN := Lib.hid hn
  have HL := Lib.hid hl
  have HBI := Lib.hid hbi
  have hn1 : 1 ≤ n := by omega
  have hn0 : (0 : Int) < (n : Int) := by omega
  have hnb : n ≤ 1000000 := by omega
  clear hv hn hc0 hx0 hl h1 hb hbi e0
  go_enter Tryz.func81, Tryz.ntmps81
  go_wp2
  go_loopw [5, 6] (AboveRel l w) (fun _ i _ => n - (intOf i).toNat)
  case atStart => exact ⟨0, by omega, rfl, by rw [List.take_zero, List.foldl_nil, HH.out], rfl⟩
  case round =>
    obtain ⟨k, hk, rfl, rfl, rfl⟩ := hrel
    have hk' : k ≤ n := by have := HN.out; omega
    by_cases hlt : k < n
    · have hkl : k < l.length := by have := HN.out; omega
      have hlti : (k : Int) < (n : Int) := by omega
      obtain ⟨_, hAd, _, hcell⟩ := HV.out.at hkl
      injection hAd with hAd
      subst hAd
      obtain ⟨x, hx⟩ : ∃ x, x = l[k] := ⟨_, rfl⟩
      have hcy : wr.cell? (ad.add k) = some (.int .i64 x) := by rw [hcell, hx]; rfl
      obtain ⟨b, hbb⟩ : ∃ b, b = (l.take k).foldl min (l.headD 0) := ⟨_, rfl⟩
      rw [← hbb]
      obtain ⟨m, hm⟩ : ∃ m, m = min b x := ⟨_, rfl⟩
      have hmin : ∀ (ts : Array TypeId) (t : TypeId) (W : World), (Builtin.min_ ts t #[.int .i64 b, .int .i64 x]).run Tryz.prog W = .ok (.int .i64 m) W := fun ts t W => by
        rw [run_min_int2]
        congr 2
        split <;> omega
      have HM : Hid (m = (l.take (k + 1)).foldl min (l.headD 0)) := Lib.hid (by rw [List.take_succ_eq_append_getElem hkl, List.foldl_append, ← hbb, ← hx, hm]; rfl)
      clear hcell hx hbb hm
      go_wp2
      go_roundw
      case rel => exact ⟨k + 1, by have := HN.out; omega, by go_num, by rw [HM.out], rfl⟩
      case measure => simp [intOf]; omega
    · obtain rfl : n = k := by omega
      have hlti : ¬ (n : Int) < (n : Int) := by omega
      have HB0 : Hid ((l.take n).foldl min (l.headD 0) = pbase l) := Lib.hid (by rw [List.take_of_length_le (by have := HN.out; omega)]; rfl)
      rw [HB0.out]
      obtain ⟨b, hbb⟩ : ∃ b, b = pbase l := ⟨_, rfl⟩
      rw [← hbb]
      have HBB := Lib.hid hbb
      have hst : OmapRel (pone b) uv 101 l wr (.slice (some ⟨wr.heap.size, 0, none⟩) 0 0) (.int .i64 0) (wr.alloc (.cells #[] 101)) := ⟨0, [], by omega, rfl, rfl, own_made wr _, (Below.refl _ _).alloc (Nat.le_refl _) _⟩
      have HST := Lib.hid hst
      clear hst hbb hcx
      generalize wr = w0 at *
      go_wp2
      go_loopw [7, 8] (OmapRel (pone b) uv 101 l w0) (fun _ i _ => n - (intOf i).toNat)
      case atStart => exact HST.out
      case round =>
        obtain ⟨k, acc, hk, rfl, hacc, hown, hbw⟩ := hrel
        have hz := hbw.size
        have hal : acc.length = k := by rw [omap_len hacc, List.length_take]; omega
        have HACC := Lib.hid hacc
        have HAL := Lib.hid hal
        have hk' : k ≤ n := by have := HN.out; omega
        have HSTT := HST
        clear HST hacc
        rw [hal] at hown
        clear hal
        by_cases hlt : k < n
        · have hkl : k < l.length := by have := HN.out; omega
          have hlti : (k : Int) < (n : Int) := by omega
          obtain ⟨_, hAd, _, hcell⟩ := (HV.out.below hbw).at hkl
          injection hAd with hAd
          subst hAd
          obtain ⟨x, hx⟩ : ∃ x, x = l[k] := ⟨_, rfl⟩
          have hcy : wr.cell? (ad.add k) = some (.int .i64 x) := by rw [hcell, hx]; rfl
          have hxb : inInt x := by rw [hx]; exact HL.out _ (List.getElem_mem hkl)
          obtain ⟨u, d, o, hg⟩ : ∃ u d o, gdiff b x = (u, d, o) := ⟨_, _, _, rfl⟩
          have HD := Lib.hid (fun W => pdiff_q b x u d o W (by rw [HBB.out]; exact HBI.out) hxb hg)
          have hp : pone b x = if o = true then some u else none := by unfold pone; rw [hg]
          have HP := Lib.hid hp
          have HX := Lib.hid hx
          clear hcell hx hxb hg hp
          cases o with
          | false =>
            have hE : Hid (paboveE l = (0, [], false)) := Lib.hid (by
              have h1 : pups l = none := by
                unfold pups
                rw [← HBB.out]
                exact omap_none (x := x) (by rw [HX.out]; exact List.getElem_mem hkl) (by rw [HP.out]; rfl)
              unfold paboveE; rw [h1])
            go_wp2_with (go_at_call 79; refine (HD.out _).mono ?_; rintro e w' ⟨rfl, rfl⟩)
            refine bodyPost_ret (results_tmp3 rfl _ _ _) rfl ?_
            rw [hE.out]
            exact ⟨_, rfl, isV_nil _ _, hbw⟩
          | true =>
            have hnext : Hid (omap (pone b) (l.take (k + 1)) = some (acc ++ [u])) := Lib.hid (omap_take hkl HACC.out (by rw [← HX.out, HP.out]; rfl))
            go_wp2_with (first | (go_at_call 79; refine (HD.out _).mono ?_; rintro e w' ⟨rfl, rfl⟩) | (at_builtin; refine wpList_push elemU rfl _ _ rfl w0.heap.size _ _ _ (uv u) wr w0 rfl rfl rfl rfl hown hbw hz (by omega) (by omega) ?_))
            intro v5 w5 hown5 hb5 _ _
            have hown6 : w5.ownsRow w0.heap.size 101 1 v5 (acc ++ [u]).length ((acc ++ [u]).map uv) := by
              rw [List.length_append, List.length_singleton, List.map_append, List.map_singleton, HAL.out]
              exact hown5
            clear hown5 hown
            go_wp2
            go_roundw
            case rel => exact ⟨k + 1, _, by have := HN.out; omega, by go_num, hnext.out, hown6, hb5⟩
            case measure => simp [intOf]; omega
        · obtain rfl : n = k := by omega
          have hlti : ¬ (n : Int) < (n : Int) := by omega
          have hE : Hid (paboveE l = (b, acc, b != -9223372036854775808)) := Lib.hid (by
            have h1 := HACC.out
            rw [List.take_of_length_le (by have := HN.out; omega)] at h1
            have h2 : pups l = some acc := by unfold pups; rw [← HBB.out]; exact h1
            unfold paboveE; rw [h2, HBB.out])
          obtain ⟨t, ht⟩ : ∃ t, t = (b != -9223372036854775808) := ⟨_, rfl⟩
          rw [← ht] at hE
          have ht' := ht.symm
          have HO := Lib.hid (isV_own hown)
          have HBW := Lib.hid hbw
          clear ht hown hbw
          go_wp2
          refine bodyPost_ret (results_tmp3 rfl _ _ _) rfl ?_
          rw [hE.out]
          exact ⟨_, rfl, HO.out, HBW.out⟩

def pgaps (ps : List (Nat × Nat)) : List Int := ps.map fun q => (q.1 : Int)
def ppats (ps : List (Nat × Nat)) : List Nat := ps.map (·.2)
def RetP (w : World) (ps : List (Nat × Nat)) (e : Ending) (w' : World) : Prop := ∃ u v, e = .returned (.tuple #[u, v]) ∧ IsV iv (pgaps ps) u w' ∧ IsV uv (ppats ps) v w' ∧ Below w.heap.size w w'
theorem pst_len (w : Nat) (us : List Nat) : ∀ k, (pst w us k).1.length ≤ k + (pst w us k).2 / 255
  | 0 => by simp [pst]
  | k + 1 => by
    have ih := pst_len w us k
    have hl := pst_last w us k
    by_cases h : us.getD k 0 / 2 ^ w = 0
    · rw [pst_skip h]; omega
    · rw [pst_more h]
      simp only [List.length_append, List.length_replicate, List.length_singleton]
      omega
def PairsRel (us : List Nat) (w : Nat) (W : World) (vg vp last i : Value) (wr : World) : Prop :=
  ∃ k : Nat, k ≤ us.length ∧ i = .int .i64 (k : Int) ∧ last = .int .i64 ((pst w us k).2 : Int) ∧ wr.ownsRow W.heap.size 3 1 vg (pst w us k).1.length ((pgaps (pst w us k).1).map iv) ∧ wr.ownsRow W.heap.size 101 1 vp (pst w us k).1.length ((ppats (pst w us k).1).map uv) ∧ Below W.heap.size W wr
def PFillRel (ps : List (Nat × Nat)) (l0 j : Nat) (W : World) (vg vp last : Value) (wr : World) : Prop :=
  ∃ i : Nat, i ≤ j ∧ last = .int .i64 ((l0 + 255 * i : Nat) : Int) ∧ wr.ownsRow W.heap.size 3 1 vg (ps.length + i) ((pgaps (ps ++ List.replicate i (255, 0))).map iv) ∧ wr.ownsRow W.heap.size 101 1 vp (ps.length + i) ((ppats (ps ++ List.replicate i (255, 0))).map uv) ∧ Below W.heap.size W wr
set_option maxHeartbeats 4000000 in
set_option maxRecDepth 100000 in
theorem rpairs_any (us : List Nat) (v : Value) (W0 : Nat) (w : World) (hv : IsV uv us v w) (h64 : ∀ u ∈ us, u < 2 ^ 64) (hb : us.length ≤ 10000) (hw : W0 ≤ 64) :
    Calls Tryz.prog 82 #[v, .int .i64 (W0 : Int)] w (RetP w (ppairs W0 us)) := by
  have HV := Lib.hid hv
  obtain ⟨A, n, c, rfl⟩ := hv.shape
  have hn := hv.parts.1
  have HN := Lib.hid hn
  have H64 := Lib.hid h64
  have hnb : n ≤ 10000 := by omega
  have hst : PairsRel us W0 w (.slice (some ⟨w.heap.size, 0, none⟩) 0 0) (.slice (some ⟨w.heap.size + 1, 0, none⟩) 0 0) (.int .i64 0) (.int .i64 0) ((w.alloc (.cells #[] 3)).alloc (.cells #[] 101)) := by
    refine ⟨0, by omega, rfl, rfl, (own_made w _).alloc _, ?_, ((Below.refl _ _).alloc (Nat.le_refl _) _).alloc (by simp) _⟩
    have h := own_made (w.alloc (.cells #[] 3)) 101
    rw [show (w.alloc (.cells #[] 3)).heap.size = w.heap.size + 1 by simp] at h
    exact own_le h (by omega)
  have HST := Lib.hid hst
  clear hv hn h64 hb hst
  go_enter Tryz.func82, Tryz.ntmps82
  go_wp2
  go_loopw [6, 7, 8, 9] (PairsRel us W0 w) (fun _ _ _ i _ => n - (intOf i).toNat)
  case atStart => exact HST.out
  case round =>
    obtain ⟨k, hk, rfl, rfl, hg, hp, hbr⟩ := hrel
    have HSTT := HST
    clear HST
    have hk' : k ≤ n := by have := HN.out; omega
    have hz := hbr.size
    by_cases hlt : k < n
    · have hkl : k < us.length := by have := HN.out; omega
      have hlti : (k : Int) < (n : Int) := by omega
      obtain ⟨ad, hAd, _, hcell⟩ := (HV.out.below hbr).at hkl
      subst hAd
      obtain ⟨u, hu⟩ : ∃ u, u = us[k] := ⟨_, rfl⟩
      have hcx : wr.cell? (ad.add k) = some (.int .u64 (u : Int)) := by rw [hcell, hu]; rfl
      have hgd : us.getD k 0 = u := by rw [List.getD_eq_getElem?_getD, List.getElem?_eq_getElem hkl, hu]; rfl
      have hu64 : u < 18446744073709551616 := by rw [hu]; exact H64.out _ (List.getElem_mem hkl)
      obtain ⟨q, hq⟩ : ∃ q, q = u / 2 ^ W0 := ⟨_, rfl⟩
      have hsh : (u : Int) / 2 ^ W0 = (q : Int) := by rw [hq]; simp
      have hlast := pst_last W0 us k
      have hpl := pst_len W0 us k
      obtain ⟨last, hla⟩ : ∃ last, last = (pst W0 us k).2 := ⟨_, rfl⟩
      obtain ⟨ps, hps⟩ : ∃ ps, ps = (pst W0 us k).1 := ⟨_, rfl⟩
      rw [← hla] at hlast hpl
      rw [← hps] at hg hp hpl
      rw [← hla]
      have hplb : ps.length ≤ 20000 := by omega
      have HLA := Lib.hid hla
      have HPS := Lib.hid hps
      have HGD := Lib.hid hgd
      have HQ := Lib.hid hq
      clear hcell hu hgd hu64 hq hla hps hpl
      by_cases hq0 : q = 0
      · have HSK : Hid (pst W0 us (k + 1) = pst W0 us k) := Lib.hid (pst_skip (by rw [HGD.out, ← HQ.out, hq0]))
        have hrel : PairsRel us W0 w u6 u7 (.int .i64 (last : Int)) (.int .i64 ((k : Int) + 1)) wr := ⟨k + 1, hkl, by rw [Int.natCast_add]; rfl, by rw [HSK.out, HLA.out], by rw [HSK.out, ← HPS.out]; exact hg, by rw [HSK.out, ← HPS.out]; exact hp, hbr⟩
        have HREL := Lib.hid hrel
        have hsz : (u : Int) / 2 ^ W0 = 0 := by rw [hsh, hq0]; rfl
        clear hrel hsh hg hp hbr hq0
        go_wp2
        go_roundw
        case rel => exact HREL.out
        case measure => simp [intOf]; omega
      · obtain ⟨j, hj⟩ : ∃ j, j = (k - last - 1) / 255 := ⟨_, rfl⟩
        have HMO : Hid (pst W0 us (k + 1) = (ps ++ (List.replicate j (255, 0) ++ [(k - last - 255 * j, q)]), k)) := Lib.hid (by rw [pst_more (by rw [HGD.out, ← HQ.out]; exact hq0), ← HLA.out, ← HPS.out, ← hj, HGD.out, ← HQ.out])
        have hq1 : ((q : Int) == 0) = false := by rw [beq_eq_false_iff_ne]; omega
        have hst : PFillRel ps last j w u6 u7 (.int .i64 (last : Int)) wr := ⟨0, by omega, rfl, by simpa using hg, by simpa using hp, hbr⟩
        have HST := Lib.hid hst
        have HJ := Lib.hid hj
        have hjb : j ≤ 10000 := by omega
        clear hst hg hp hbr hj hq0
        go_wp2
        clear hcx
        go_loopw [6, 7, 8] (PFillRel ps last j w) (fun _ _ l _ => k - (intOf l).toNat)
        case atStart => exact HST.out
        case round =>
          obtain ⟨i, hi, rfl, hg, hp, hbr⟩ := hrel
          have HSTT2 := HST
          clear HST
          have hz := hbr.size
          obtain ⟨L, hL⟩ : ∃ L, L = last + 255 * i := ⟨_, rfl⟩
          rw [← hL]
          obtain ⟨d, hd⟩ : ∃ d, d = k - L := ⟨_, rfl⟩
          have hLk : L ≤ k := by have := HJ.out; omega
          have hdi : (k : Int) - (L : Int) = (d : Int) := by omega
          have hdw : IntKind.i64.wrap (d : Int) = (d : Int) := by rw [IntKind.wrap_i64]; omega
          have HL := Lib.hid hL
          have HD := Lib.hid hd
          clear hL hd
          by_cases hij : i < j
          · have hd5 : (255 : Int) < (d : Int) := by have := HJ.out; have := HL.out; have := HD.out; omega
            have hLw : IntKind.i64.wrap ((L : Int) + 255) = (L : Int) + 255 := by rw [IntKind.wrap_i64]; omega
            go_wp2_with (at_builtin; refine wpList_push elemI rfl _ _ rfl w.heap.size _ _ _ (.int .i64 255) wr w rfl rfl rfl rfl hg hbr hz (by omega) (by omega) ?_)
            intro v5 w5 hg5 hb5 hgr5 _
            have hp5 := own_other hp hg (by decide) hgr5
            have hz5 := hb5.size
            clear hp hg hgr5
            go_wp2_with (at_builtin; refine wpList_push elemU rfl _ _ rfl w.heap.size _ _ _ (.int .u64 0) w5 w rfl rfl rfl rfl hp5 hb5 hz5 (by omega) (by omega) ?_)
            intro v6 w6 hp6 hb6 hgr6 _
            have hg6 := own_other hg5 hp5 (by decide) hgr6
            have hrel : PFillRel ps last j w v5 v6 (.int .i64 ((L : Int) + 255)) w6 := by
              refine ⟨i + 1, hij, ?_, ?_, ?_, hb6⟩
              · congr 1; have := HL.out; omega
              · rw [List.replicate_succ', ← List.append_assoc, pgaps, List.map_append, List.map_append]
                exact hg6
              · rw [List.replicate_succ', ← List.append_assoc, ppats, List.map_append, List.map_append]
                exact hp6
            have HREL := Lib.hid hrel
            clear hp6 hg6 hp5 hg5 hrel hb6 hb5 hgr6
            go_wp2
            go_roundw
            case rel => exact HREL.out
            case measure => simp [intOf]; have := HL.out; omega
          · obtain rfl : i = j := by omega
            have hd5 : ¬ (255 : Int) < (d : Int) := by have := HJ.out; have := HL.out; have := HD.out; omega
            go_wp2_with (at_builtin; refine wpList_push elemI rfl _ _ rfl w.heap.size _ _ _ (.int .i64 (d : Int)) wr w rfl rfl rfl rfl hg hbr hz (by omega) (by omega) ?_)
            intro v5 w5 hg5 hb5 hgr5 _
            have hp5 := own_other hp hg (by decide) hgr5
            have hz5 := hb5.size
            clear hp hg hgr5
            go_wp2_with (at_builtin; refine wpList_push elemU rfl _ _ rfl w.heap.size _ _ _ (.int .u64 (q : Int)) w5 w rfl rfl rfl rfl hp5 hb5 hz5 (by omega) (by omega) ?_)
            intro v6 w6 hp6 hb6 hgr6 _
            have hg6 := own_other hg5 hp5 (by decide) hgr6
            have hrel : PairsRel us W0 w v5 v6 (.int .i64 (k : Int)) (.int .i64 ((k : Int) + 1)) w6 := by
              have hdd : k - last - 255 * i = d := by have := HL.out; have := HD.out; omega
              have hlen : (ps ++ (List.replicate i (255, 0) ++ [(d, q)])).length = ps.length + i + 1 := by simp; omega
              refine ⟨k + 1, hkl, by rw [Int.natCast_add]; rfl, by rw [HMO.out], ?_, ?_, hb6⟩
              · rw [HMO.out, hdd]
                dsimp only
                rw [hlen, ← List.append_assoc, pgaps, List.map_append, List.map_append]
                exact hg6
              · rw [HMO.out, hdd]
                dsimp only
                rw [hlen, ← List.append_assoc, ppats, List.map_append, List.map_append]
                exact hp6
            have HREL := Lib.hid hrel
            clear hp6 hg6 hp5 hg5 hrel hb6 hb5 hgr6
            go_wp2
            go_roundw
            case rel => exact HREL.out
            case measure => simp [intOf]; omega
    · obtain rfl : n = k := by omega
      have hlti : ¬ (n : Int) < (n : Int) := by omega
      have HE : Hid ((pst W0 us n).1 = ppairs W0 us) := Lib.hid (by unfold ppairs; rw [HN.out])
      rw [HE.out] at hg hp
      have HG := Lib.hid (isV_own hg)
      have HP := Lib.hid (isV_own hp)
      have HBR := Lib.hid hbr
      clear hg hp hbr
      go_wp2
      go_ret2
      exact ⟨_, _, rfl, HG.out, HP.out, HBR.out⟩
theorem be_get : ∀ (m N j : Nat) (h : j < (be m N).length), (be m N)[j] = UInt8.ofNat (N / 256 ^ (m - 1 - j) % 256)
  | m + 1, N, 0, _ => by simp [be]
  | m + 1, N, j + 1, h => by
    have h' : j < (be m N).length := by simpa [be] using h
    have := be_get m N j h'
    simp only [be, List.getElem_cons_succ]
    rw [this, show m + 1 - 1 - (j + 1) = m - 1 - j by omega]
/-- The highest byte bears the sign. -/
theorem be_signed {n S b0 : Nat} (h1 : 1 ≤ n) (hS : S < 2 ^ (8 * n - 1)) (hb : b0 = S / 256 ^ (n - 1) % 256) : b0 < 128 ∧ (be n S).set 0 (UInt8.ofNat (b0 + 128)) = be n (S + 2 ^ (8 * n - 1)) := by
  have hp : 2 ^ (8 * n - 1) = 128 * 256 ^ (n - 1) := by rw [p256, show 8 * n - 1 = 7 + 8 * (n - 1) by omega, Nat.pow_add]
  have hpos : 0 < 256 ^ (n - 1) := Nat.pow_pos (by omega)
  have hlt : S / 256 ^ (n - 1) < 128 := by rw [Nat.div_lt_iff_lt_mul hpos, ← hp]; exact hS
  have hb1 : b0 < 128 := by rw [hb]; exact Nat.lt_of_le_of_lt (Nat.mod_le _ _) hlt
  refine ⟨hb1, eq_be (by rw [List.length_set, be_len]) ?_⟩
  have hl : 0 < (be n S).length := by rw [be_len]; omega
  have h2 := bval_set (be n S) 0 (UInt8.ofNat (b0 + 128)) hl
  rw [be_get n S 0 hl, be_len, Nat.sub_zero, ← hb] at h2
  have e1 : (UInt8.ofNat b0).toNat = b0 := byte_low (by omega)
  have e2 : (UInt8.ofNat (b0 + 128)).toNat = b0 + 128 := byte_low (by omega)
  have h3 : bval (be n S) = S := by
    rw [bval_be, Nat.mod_eq_of_lt]
    rw [p256, show 8 * n = (8 * n - 1) + 1 by omega, Nat.pow_succ]
    omega
  rw [e1, e2, h3, Nat.add_mul] at h2
  rw [hp]
  omega
def BasedRel (n S : Nat) (w : World) (v i : Value) (wr : World) : Prop :=
  ∃ j : Nat, j ≤ n ∧ i = .int .i64 ((n : Int) - 1 - (j : Int)) ∧ wr.ownsRow w.heap.size 5 1 v j (((be n S).take j).map bv) ∧ Below w.heap.size w wr
set_option maxHeartbeats 2000000 in
set_option maxRecDepth 100000 in
theorem rbased_any (base : Int) (w : World) (hb : inInt base) (hne : base ≠ -9223372036854775808) : Calls Tryz.prog 83 #[.int .i64 base] w (RetOwn w (pbased base)) := by
  obtain ⟨hs, hlt⟩ := psize_base hb hne
  obtain ⟨n1, n8, hS8⟩ := pn_bd hlt
  obtain ⟨S, hS⟩ : ∃ S, S = psize base := ⟨_, rfl⟩
  obtain ⟨n, hn⟩ : ∃ n, n = pn base := ⟨_, rfl⟩
  obtain ⟨f, hf⟩ : ∃ f, f = decide (base < 0) := ⟨_, rfl⟩
  have hg : gdiff 0 base = (S, f, true) := by
    unfold inInt at hb
    rw [hS, hf]
    unfold psize
    rcases gdiff_cases 0 base with ⟨_, k⟩ | ⟨k1, _, k⟩ | ⟨k1, _, k⟩
    · omega
    · rw [k, decide_eq_true k1]
    · rw [k, decide_eq_false (by omega)]
  have HD := Lib.hid (fun W => pdiff_q 0 base S f true W ⟨by omega, by omega⟩ hb hg)
  have hpb : pbased base = be n (S + if f = true then 2 ^ (8 * n - 1) else 0) := by
    unfold pbased
    rw [← hS, ← hn]
    congr 2
    rw [hf]
    by_cases h : base < 0
    · rw [if_pos h, if_pos (by simpa using h)]
    · rw [if_neg h, if_neg (by simpa using h)]
  obtain ⟨B, hB⟩ : ∃ B, B = wbits S := ⟨_, rfl⟩
  have HBI := Lib.hid (fun W => rbits_any S W (by rw [hS]; show psize base < 18446744073709551616; omega))
  rw [← hB] at HBI
  obtain ⟨Q, hQ⟩ : ∃ Q, Q = B / 8 := ⟨_, rfl⟩
  have hnq : n = Q + 1 := by rw [hn, hQ, hB, hS]; rfl
  have hBq : (B : Int) / 8 = (Q : Int) := by omega
  rw [← hn] at n1 n8 hS8
  rw [← hS] at hS8
  have HPB := Lib.hid hpb
  have HS8 := Lib.hid hS8
  have hQ8 : Q ≤ 7 := by omega
  have hst : BasedRel n S w (.slice (some ⟨w.heap.size, 0, none⟩) 0 0) (.int .i64 (Q : Int)) (w.alloc (.cells #[] 5)) := ⟨0, by omega, by congr 1; omega, by simpa using own_made w 5, (Below.refl _ _).alloc (Nat.le_refl _) _⟩
  have HST := Lib.hid hst
  have HNQ := Lib.hid hnq
  clear hs hlt hS hn hf hg hpb hB hQ hnq hS8 hst hb hne
  go_enter Tryz.func83, Tryz.ntmps83
  go_wp2_with (first | (go_at_call 79; refine (HD.out _).mono ?_; rintro e w' ⟨rfl, rfl⟩) | (go_at_call 73; refine (HBI.out _).mono ?_; rintro e w' ⟨rfl, rfl⟩))
  go_loopw [7, 8] (BasedRel n S w) (fun _ i _ => (intOf i + 1).toNat)
  case atStart => exact HST.out
  case round =>
    obtain ⟨j, hj, rfl, hown, hbr⟩ := hrel
    have HSTT := HST
    clear HST
    have hz := hbr.size
    by_cases hlt : j < n
    · obtain ⟨I, hI⟩ : ∃ I, I = n - 1 - j := ⟨_, rfl⟩
      rw [show (n : Int) - 1 - (j : Int) = (I : Int) by omega]
      have hI7 : I ≤ 7 := by omega
      obtain ⟨T, hT⟩ : ∃ T, T = S / 2 ^ (8 * I) := ⟨_, rfl⟩
      obtain ⟨M, hM⟩ : ∃ M, M = 8 * I := ⟨_, rfl⟩
      have hMi : 8 * (I : Int) = (M : Int) := by omega
      have hMw : IntKind.i64.wrap (M : Int) = (M : Int) := by rw [IntKind.wrap_i64]; omega
      have hsh : (S : Int) / 2 ^ M = (T : Int) := by rw [hT, hM]; simp
      obtain ⟨C, hC⟩ : ∃ C, C = T % 256 := ⟨_, rfl⟩
      have hCw : IntKind.u8.wrap (T : Int) = (C : Int) := by rw [IntKind.wrap_u8]; omega
      have hTm : (T : Int) % 256 = (C : Int) := by omega
      have hjl : j < (be n S).length := by rw [be_len]; exact hlt
      have hnx : (be n S).take (j + 1) = (be n S).take j ++ [UInt8.ofNat C] := by rw [List.take_succ_eq_append_getElem hjl, be_get, ← hI, p256, ← hT, ← hC]
      have hbv : Value.int .u8 (C : Int) = bv (UInt8.ofNat C) := bv_low7 (by omega)
      have HNX := Lib.hid hnx
      have HBV := Lib.hid hbv
      have hM64 : M < 64 := by omega
      have hI0 : (0 : Int) ≤ (I : Int) := by omega
      have HI := Lib.hid hI
      clear hT hC hnx hbv hjl hI hM
      go_wp2_with (at_builtin; go_must (refine wpList_push elemB rfl _ _ rfl w.heap.size _ _ _ (.int .u8 (C : Int)) wr w rfl rfl rfl rfl hown hbr hz (by omega) (by omega) ?_))
      intro v5 w5 hown5 hb5 _ _
      have hrel : BasedRel n S w v5 (.int .i64 ((I : Int) - 1)) w5 := ⟨j + 1, hlt, by congr 1; have := HI.out; omega, by rw [HNX.out, List.map_append, List.map_singleton, ← HBV.out, List.map_take]; exact hown5, hb5⟩
      have HREL := Lib.hid hrel
      have hIw : IntKind.i64.wrap ((I : Int) - 1) = (I : Int) - 1 := by rw [IntKind.wrap_i64]; omega
      clear hrel hown5 hown hb5
      go_wp2
      go_roundw
      case rel => exact HREL.out
      case measure => simp [intOf]
    · obtain rfl : n = j := by omega
      rw [show (n : Int) - 1 - (n : Int) = -1 by omega]
      rw [List.take_of_length_le (by rw [be_len]; omega)] at hown
      cases f with
      | false =>
        have HE : Hid (pbased base = be n S) := Lib.hid (by rw [HPB.out]; rfl)
        have HO := Lib.hid hown
        clear hown
        go_wp2
        go_ret
        rw [HE.out]
        exact ⟨_, rfl, by rw [be_len]; exact HO.out, hbr⟩
      | true =>
        have HE : Hid (pbased base = be n (S + 2 ^ (8 * n - 1))) := Lib.hid (by rw [HPB.out]; rfl)
        obtain ⟨b0, hb0⟩ : ∃ b0, b0 = S / 256 ^ (n - 1) % 256 := ⟨_, rfl⟩
        obtain ⟨hb1, hbe⟩ := be_signed n1 HS8.out hb0
        obtain ⟨g, cap, hv, hgw⟩ : ∃ g cap, u7 = .slice (some ⟨g, 0, none⟩) n cap ∧ w.heap.size ≤ g := by
          rcases hown.2 with ⟨_, h0⟩ | ⟨g, cap, _, h, hg, _⟩
          · omega
          · exact ⟨g, cap, h, hg⟩
        subst hv
        have hc0 : wr.cell? ⟨g, 0, none⟩ = some (.int .u8 (b0 : Int)) := by
          rw [hown.cellAt 0 (by omega), List.getElem?_map, List.getElem?_eq_getElem (by rw [be_len]; omega), be_get, Nat.sub_zero, ← hb0]
          show some (bv (UInt8.ofNat b0)) = _
          rw [← bv_low7 (by omega)]
        have hf0 := hown.frozenAt 0
        obtain ⟨C, hC⟩ : ∃ C, C = b0 + 128 := ⟨_, rfl⟩
        have hCi : (b0 : Int) + 128 = (C : Int) := by omega
        have hCw : IntKind.u8.wrap (C : Int) = (C : Int) := by rw [IntKind.wrap_u8]; omega
        have hst := (hown.stored 0 (.int .u8 (C : Int))).1
        have hmap : ((be n S).map bv).set 0 (.int .u8 (C : Int)) = (be n (S + 2 ^ (8 * n - 1))).map bv := by rw [bv_low7 (by omega), ← List.map_set, hC, hbe]
        rw [hmap] at hst
        have HO := Lib.hid hst
        have HB := Lib.hid (hbr.setCell (p := ⟨g, 0, none⟩) hgw (.int .u8 (C : Int)))
        have hn0 : (0 : Int) < (n : Int) := by omega
        clear hst hmap hown hb0 hbe hC hbr
        go_wp2
        go_ret
        rw [HE.out]
        exact ⟨_, rfl, by rw [be_len]; exact HO.out, HB.out⟩
end Go.Proofs.YtblpkmmhmdpkjaaGreatDoor
