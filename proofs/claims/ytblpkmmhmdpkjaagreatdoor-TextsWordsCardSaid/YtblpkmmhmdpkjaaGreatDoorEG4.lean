/- Texts that the claims of this seat share, part 4: TPutO TIs PPlain PTPlain PRef PRPut PRTake PLow PBase PFill PCut PLay PCat POps. -/
import Derived.Laws.OwnMore
import Derived.Lib.AppendZeros
import Derived.Test.YtblpkmmhmdpkjaaGreatDoorEG3
/- delta's own contracts: Put. -/



namespace Go.Proofs.YtblpkmmhmdpkjaaGreatDoor

open Go.RowKit

theorem gtail_same {us : List Nat} (h : gall us = true) : gtail us = [] ∧ gnum us = 0 := ⟨by unfold gtail; rw [if_pos h], by unfold gnum; rw [if_pos h]⟩
theorem gtail_more {us : List Nat} (h : gall us = false) : gtail us = bpack us.tail (gwide us.tail) ∧ gnum us = gcode us.tail := by
  have h2 : ¬ gall us = true := by rw [h]; decide
  exact ⟨by unfold gtail; rw [if_neg h2], by unfold gnum; rw [if_neg h2]⟩
/-- pack, of differences that go one way. -/
theorem tpack_any (l : List Int) (m : Nat) (v : Value) (w : World) (ht : WTab w) (hd : IsR dc (gpairs l m) v w) (h1 : 1 ≤ m) (h5 : m ≤ 511) (hs : dsame (gpairs l m) = gall (sizesOf (gpairs l m))) :
    Calls Tryz.prog 151 #[v] w (RetPk w (gnum (sizesOf (gpairs l m))) (gtail (sizesOf (gpairs l m)))) := by
  cases h : gall (sizesOf (gpairs l m)) with
  | true =>
    rw [(gtail_same h).1, (gtail_same h).2]
    exact pack_same _ v w hd (by rw [gpairs_len]; omega) (by rw [hs, h])
  | false =>
    rw [(gtail_more h).1, (gtail_more h).2, ← sizes_tail]
    exact pack_more _ v w ht hd (by rw [gpairs_len]; omega) (by rw [gpairs_len]; omega) (by rw [hs, h]) sizes_lt
theorem gnum_le {us : List Nat} (h : ∀ u ∈ us, u < 2 ^ 64) : gnum us ≤ 31 := by
  unfold gnum
  split
  · omega
  · exact (gwide_int fun u hu => h u (List.mem_of_mem_tail hu)).2.2.2.2.2.2.1
/-- A tail is short. -/
theorem gtail_short {us : List Nat} (hl : us.length ≤ 512) (h : ∀ u ∈ us, u < 2 ^ 64) : (gtail us).length ≤ 5000 := by
  unfold gtail
  split
  · simp
  · rw [bpack_len]
    have h1 : (us.tail).length ≤ 512 := by rw [List.length_tail]; omega
    have h2 := (gwide_int fun u hu => h u (List.mem_of_mem_tail hu)).2.2.2.2.1
    exact Nat.le_trans (bsize_small h1 h2) (by omega)
set_option maxHeartbeats 8000000 in
set_option maxRecDepth 100000 in
theorem tput_own (l : List Int) (v : Value) (s : Bool) (w : World) (ht : WTab w) (hv : IsV iv l v w) (hl : ∀ x ∈ l, inInt x) (hb : l.length ≤ 1000000) : Calls Tryz.prog 126 #[v, .bool s] w (RetEO w (gputE l s)) := by
  obtain ⟨A, n, c, rfl⟩ := hv.shape
  have hn := hv.len
  by_cases h2 : n < 2 ∨ 512 < n
  · have hE := Lib.hid (gputE_no (s := s) (.inr (by rw [← hn]; exact h2) : dplain l s = none ∨ l.length < 2 ∨ 512 < l.length))
    have HC := Lib.hid (tcount_no (n : Int) w (by omega))
    clear hv hl hb hn h2 ht
    go_enter Tryz.func126, Tryz.ntmps126
    go_wp2_with (go_at_call 147; refine HC.out.mono ?_; rintro e w' ⟨rfl, rfl⟩)
    go_ret2
    rw [hE.out]
    exact RetEO.nil _ (Below.refl _ _)
  · have HN := Lib.hid hn
    have HV := Lib.hid hv
    have HT := Lib.hid ht
    have HL := Lib.hid hl
    have HC := Lib.hid (tcount_yes (n : Int) w (by omega) (by omega))
    have hn2 : 2 ≤ n := by omega
    have hn5 : n ≤ 512 := by omega
    obtain ⟨m, hm⟩ : ∃ m, m = n - 1 := ⟨_, rfl⟩
    have HM := Lib.hid (show l.length - 1 = m by omega)
    have hm1 : 1 ≤ m := by omega
    have hm5 : m ≤ 511 := by omega
    have HL0 := Lib.hid (show inInt (l.headD 0) by
      cases l with
      | nil => unfold inInt; simp
      | cons a t => exact hl a List.mem_cons_self)
    have hne : l ≠ [] := by rintro rfl; simp at hn; omega
    have HMIN := Lib.hid (min_any l (.slice A n c) w hv (by omega) hb)
    have HNEG := Lib.hid (lmin_neg hne)
    obtain ⟨mn, hmn⟩ : ∃ mn, mn = lmin l := ⟨_, rfl⟩
    rw [← hmn] at HMIN HNEG
    have HDF := Lib.hid (diffs_any l (.slice A n c) w hv hl (by omega) hb)
    clear hv ht hl hb h2 hn hne hmn hm
    cases s with
    | true =>
      have HPL := Lib.hid (dplain_some (l := l) (s := true) (.inl rfl))
      go_enter Tryz.func126, Tryz.ntmps126
      go_wp2_with (first | (go_at_call 147; refine HC.out.mono ?_; rintro e w' ⟨rfl, rfl⟩) | (go_at_call 148; refine HMIN.out.mono ?_; rintro e w' ⟨rfl, rfl⟩) | (go_at_call 149; refine HDF.out.mono ?_))
      rintro e w1 (⟨hok, dv1, rfl, hd1, hb1⟩ | ⟨⟨i, hi, hbad⟩, rfl, hb1⟩)
      · have HOK := Lib.hid (show ∀ i, i < m → (diffAt l i).2.2 = true from fun i hi => hok i (by have := HN.out; have := HM.out; omega))
        rw [HM.out] at hd1
        obtain ⟨DA, dn, dcap, rfl⟩ := hd1.shape
        have hdn : dn = m := by have := hd1.parts.1; rw [gpairs_len] at this; omega
        subst hdn
        have HD1 := Lib.hid hd1
        have HB1 := Lib.hid hb1
        have HT1 := Lib.hid (HT.out.below hb1 HT.out.lt)
        have HWAY := Lib.hid (way_any (gpairs l dn) (.slice DA dn dcap) w1 hd1 (by rw [gpairs_len]; exact hm1) (by rw [gpairs_len]; omega))
        clear hok hd1 hb1
        cases hway : dway (gpairs l dn) with
        | false =>
          have hE := Lib.hid (gputE_none (s := true) (show gsizes l (gfalls l) (l.length - 1) = none by rw [HM.out]; exact gsizes_turn hm1 HOK.out hway))
          rw [hway] at HWAY
          clear hway
          go_wp2_with (go_at_call 150; refine HWAY.out.mono ?_; rintro e w2 ⟨rfl, hb2⟩)
          go_ret2
          rw [hE.out]
          exact RetEO.nil _ (below_then HB1.out hb2)
        | true =>
          have HSZ := Lib.hid (gsizes_way hm1 HOK.out hway)
          have HSM := Lib.hid (dsame_all hm1 HOK.out hway)
          have hst := first_step hm1 HOK.out
          have hE := gputE_some (s := true) HPL.out (by have := HN.out; omega) (by have := HN.out; omega) (show gsizes l (gfalls l) (l.length - 1) = some (sizesOf (gpairs l dn)) by rw [HM.out]; exact HSZ.out)
          have hfi := (gfirst_diff (l := l) (us := sizesOf (gpairs l dn)) (by have := HN.out; omega) (by rw [HM.out]; exact HSZ.out)).2
          have h64 := gsizes_64 HSZ.out
          have HPK := Lib.hid (fun (w : World) ht hd => tpack_any l dn (.slice DA dn dcap) w ht hd hm1 (by omega) HSM.out)
          have hgn := gnum_le h64
          have HTB := Lib.hid (gtail_short (us := sizesOf (gpairs l dn)) (by rw [show (sizesOf (gpairs l dn)).length = dn by unfold sizesOf; rw [List.length_map, gpairs_len]]; omega) h64)
          unfold glay at hE
          obtain ⟨us, hus⟩ : ∃ us, us = sizesOf (gpairs l dn) := ⟨_, rfl⟩
          rw [← hus] at hE hst hfi HPK hgn HTB
          obtain ⟨G, hG⟩ : ∃ G, G = gnum us := ⟨_, rfl⟩
          obtain ⟨tl, htl⟩ : ∃ tl, tl = gtail us := ⟨_, rfl⟩
          obtain ⟨x1, hx1⟩ : ∃ x1, x1 = gfirst l us := ⟨_, rfl⟩
          obtain ⟨x0, hx0⟩ : ∃ x0, x0 = l.headD 0 := ⟨_, rfl⟩
          rw [← hG, ← htl, ← hx1, ← hx0, ← HN.out] at hE
          rw [← hG, ← htl] at HPK
          rw [← hG] at hgn
          rw [← htl] at HTB
          rw [← hx1] at hst hfi
          obtain ⟨u0, f0, ok0, hd0⟩ : ∃ u0 f0 ok0, diffAt l 0 = (u0, f0, ok0) := ⟨_, _, _, rfl⟩
          have hu0 : (u0 : Int) < 18446744073709551616 := by have h := gdiff_lt (l.getD 0 0) (l.getD (0 + 1) 0); unfold diffAt at hd0; rw [hd0] at h; dsimp only at h; omega
          rw [hd0] at hst
          have HSP := Lib.hid (fun (w : World) => step_any 0 u0 f0 w (by unfold inInt; omega) hu0)
          rw [hst] at HSP
          unfold RetG at HSP
          have HE2 := Lib.hid hE
          have HX1 := Lib.hid hfi
          have HG31 := Lib.hid hgn
          have HX0 := Lib.hid (show inInt x0 by rw [hx0]; exact HL0.out)
          have HC0 := Lib.hid (show ∀ W, Below w.heap.size w W → ∃ ad, A = some ad ∧ ad.block < W.heap.size ∧ W.cell? (ad.add 0) = some (.int .i64 x0) from fun W hW => by
            obtain ⟨ad, e1, e2, e3⟩ := (HV.out.below hW).at (k := 0) (by have := HN.out; omega)
            refine ⟨ad, e1, e2, ?_⟩
            rw [e3, hx0]
            cases l with
            | nil => have := HN.out; simp at this; omega
            | cons a t => rfl)
          have HDC := Lib.hid (show ∀ W, IsR dc (gpairs l dn) (.slice DA dn dcap) W → ∃ ad, DA = some ad ∧ ad.block < W.heap.size ∧ W.cell? ad = some (.int .u64 (u0 : Int)) ∧ W.cell? ⟨ad.block, ad.off + 1, none⟩ = some (.bool f0) from fun W hW => by
            obtain ⟨ad, e1, e2, e3⟩ := hW.at (m := 2) dc_len (by omega) (k := 0) (by rw [gpairs_len]; exact hm1)
            have e4 : (gpairs l dn)[0]? = some (u0, f0) := by rw [gpairs_get 0 hm1, hd0]; rfl
            rw [List.getElem?_eq_getElem (by rw [gpairs_len]; exact hm1)] at e4
            injection e4 with e4
            rw [e4] at e3
            have k0 := cells2 e3
            rw [Nat.zero_mul] at k0
            have ha0 : ad.add 0 = ad := by simp [Addr.add]
            rw [ha0] at k0
            exact ⟨ad, e1, e2, k0.1, k0.2⟩)
          rw [hway] at HWAY
          clear hway hE hst hfi h64 hgn hus hG htl hx1 hx0 hd0 hu0
          go_wp2_with fail
          refine HWAY.out.mono ?_
          rintro e w2 ⟨rfl, hb2⟩
          have HB2 := Lib.hid (below_then HB1.out hb2)
          have HT2 := Lib.hid (HT1.out.below hb2 HT1.out.lt)
          have HD2 := Lib.hid (HD1.out.below hb2)
          clear hb2
          go_wp2_with fail
          refine (HPK.out w2 HT2.out HD2.out).mono ?_
          rintro e w3 ⟨pv, rfl, hp3, hb3⟩
          have HB3 := Lib.hid (below_then HB2.out hb3)
          have HT3 := Lib.hid (HT2.out.below hb3 HT2.out.lt)
          have HP3 := Lib.hid hp3
          obtain ⟨da, rfl, hda, hdc1, hdc2⟩ := HDC.out w3 (HD2.out.below hb3)
          clear hb3 hp3
          have ha0 : da.add 0 = da := by simp [Addr.add]
          go_wp2_with fail
          refine (HSP.out w3).mono ?_
          rintro e w4 ⟨rfl, hb4⟩
          have HB4 := Lib.hid (below_then HB3.out hb4)
          have HT4 := Lib.hid (HT3.out.below hb4 HT3.out.lt)
          have HP4 := Lib.hid (IsB.below HP3.out hb4)
          clear hb4 hdc1 hdc2 hda ha0
          go_wp2
          obtain ⟨ad, rfl, had, _⟩ := HC0.out w4 HB4.out
          refine wp_region_list [.is (.int .i64 (G : Int)), .is (.slice (some ad) n c), .is (.int .i64 (n : Int)), .bytes (dheadN 3 G n), .is (.slice (some ad) n c), .is (.pointer (some (ad.add 0))), .is (.int .i64 x0), .is (.bool true), .bytes (dheadN 3 G n ++ vput (vint x0 true)), .bytes (dheadN 3 G n ++ vput (vint x0 true))] [some 55, some 56, some 57, some 58, some 59, some 60, some 61, some 62, some 63, some 13] (by kernel_rfl) (by kernel_rfl) (by kernel_rfl) rfl ⟨?_, ?_, ?_, ?_, ?_, ?_, ?_, ?_, ?_, ?_, trivial⟩ ?_
          · intro ρ W1 hb1 H
            exact gives_move rfl (H.old 8 _ (by kernel_rfl) rfl) ⟨rfl, Below.refl _ _⟩
          · intro ρ W1 hb1 H
            exact gives_move rfl (H.old 0 _ (by kernel_rfl) rfl) ⟨rfl, Below.refl _ _⟩
          · intro ρ W1 hb1 H
            exact gives_len Tryz.underlying47 rfl (H.new 56 1 (by kernel_rfl)) ⟨rfl, Below.refl _ _⟩
          · intro ρ W1 hb1 H
            have e0 : ρ (.tmp 55) = .int .i64 (G : Int) := H.new 55 0 (by kernel_rfl)
            have e1 : ρ (.tmp 57) = .int .i64 (n : Int) := H.new 57 2 (by kernel_rfl)
            refine gives_call rfl (fun _ _ => by kernel_rfl) (H.func _) (args := #[.int .i64 3, .int .i64 (G : Int), .int .i64 (n : Int)]) (by simp [e0, e1, H.const]) ?_
            have hG := HG31.out
            refine (dhead_any 3 (G : Int) (n : Int) W1 (HT4.out.below hb1 HT4.out.lt) (by unfold inInt; omega) (by unfold inInt; omega) (by unfold inInt; omega)).mono ?_
            rintro e w' ⟨u, h1, h2, h3⟩
            rw [show ((3 : Int)) = ((3 : Nat) : Int) from rfl, dhead_in (by omega) hG (by omega) (by omega)] at h2
            exact ⟨_, h1, h2, h3⟩
          · intro ρ W1 hb1 H
            exact gives_move rfl (H.old 0 _ (by kernel_rfl) rfl) ⟨rfl, Below.refl _ _⟩
          · intro ρ W1 hb1 H
            exact gives_index (k := 0) elemI rfl (H.new 59 4 (by kernel_rfl)) (H.const _) (by omega) ⟨rfl, Below.refl _ _⟩
          · intro ρ W1 hb1 H
            obtain ⟨ad', e1, _, e2⟩ := HC0.out W1 (below_then HB4.out hb1)
            injection e1 with e1
            subst e1
            exact gives_load rfl (H.new 60 5 (by kernel_rfl)) Tryz.underlying3 rfl e2 ⟨rfl, Below.refl _ _⟩
          · intro ρ W1 hb1 H
            exact gives_move rfl (H.old 1 _ (by kernel_rfl) rfl) ⟨rfl, Below.refl _ _⟩
          · intro ρ W1 hb1 H
            have e0 : IsB (dheadN 3 G n) (ρ (.tmp 58)) W1 := H.new 58 3 (by kernel_rfl)
            have e1 : ρ (.tmp 61) = .int .i64 x0 := H.new 61 6 (by kernel_rfl)
            have e2 : ρ (.tmp 62) = .bool true := H.new 62 7 (by kernel_rfl)
            obtain ⟨hv, hhv⟩ : ∃ hv, hv = ρ (.tmp 58) := ⟨_, rfl⟩
            rw [← hhv] at e0
            refine gives_call rfl (fun _ _ => by kernel_rfl) (H.func _) (args := #[hv, .int .i64 x0, .bool true]) (by simp [hhv, e1, e2]) ?_
            exact (putInt_isB x0 true e0 (by rw [dheadN_len]; omega) HX0.out.1 HX0.out.2).mono fun e w' ⟨u, h1, h2, h3⟩ => ⟨_, h1, h2, h3⟩
          · intro ρ W1 hb1 H
            exact gives_assign rfl rfl ⟨H.new 63 8 (by kernel_rfl), Below.refl _ _⟩
          · intro vs W1 hb1 hfs
            have f9 : IsB (dheadN 3 G n ++ vput (vint x0 true)) (vs 9) W1 := hfs 9 (by decide)
            clear hfs
            simp only [putAll, Nat.zero_add, Nat.reduceAdd]
            generalize vs 0 = z0
            generalize vs 1 = z1
            generalize vs 2 = z2
            generalize vs 3 = z3
            generalize vs 4 = z4
            generalize vs 5 = z5
            generalize vs 6 = z6
            generalize vs 7 = z7
            generalize vs 8 = z8
            generalize vs 9 = z9 at f9 ⊢
            simp only [Act.put, List.setIfInBounds_toArray, List.set_cons_succ, List.set_cons_zero]
            have HO := Lib.hid f9
            have HBa := Lib.hid (below_then HB4.out hb1)
            have HP5 := Lib.hid (IsB.below HP4.out hb1)
            have HLN := Lib.hid (show (dheadN 3 G n ++ vput (vint x0 true)).length ≤ 1000 by rw [List.length_append, dheadN_len]; have := vput_len_10 (x := vint x0 true) (vint_64 HX0.out); omega)
            clear f9 hb1
            go_wp2_with fail
            refine (putInt_isO x1 true HO.out (by have := HLN.out; omega) HX1.out.1 HX1.out.2).mono ?_
            rintro e w6 ⟨v6, rfl, hown6, hb6⟩
            have hp6 := IsB.below HP5.out hb6
            obtain ⟨A7, n7, c7, rfl⟩ := IsV.shape (f := bv) hp6
            obtain ⟨hn7, hA7, -, -, hl7⟩ := IsV.parts (f := bv) (show IsV bv _ _ _ from hp6)
            have hM7 : (tl.map bv).length = n7 := by rw [List.length_map]; exact hn7
            have hn7b : n7 ≤ 5000 := by rw [← hn7]; exact HTB.out
            have HM7 := Lib.hid hM7
            have hzz6 := hb6.size
            obtain ⟨K6, hK6⟩ : ∃ K, K = (dheadN 3 G n ++ vput (vint x0 true) ++ vput (vint x1 true)).length := ⟨_, rfl⟩
            have hK6b : K6 ≤ 2000 := by rw [hK6, List.length_append]; have := vput_len_10 (x := vint x1 true) (vint_64 HX1.out); have := HLN.out; omega
            rw [← hK6] at hown6
            have HK6 := Lib.hid hK6
            obtain ⟨xs6, hx6⟩ : ∃ xs, xs = (dheadN 3 G n ++ vput (vint x0 true) ++ vput (vint x1 true)).map bv := ⟨_, rfl⟩
            rw [← hx6] at hown6
            have HX6 := Lib.hid hx6
            clear hp6 hM7 hn7 hK6 hx6
            go_wp2_with (at_builtin; refine wpList_join elemB rfl _ _ rfl W1.heap.size _ _ _ _ _ _ (tl.map bv) W1 rfl rfl hA7 HM7.out hl7 (bv_one _) hown6 hb6 hzz6 (by omega) (by omega) ?_)
            intro v8 w8 hown8 hb8 _ _
            have HI9 := Lib.hid (show w8.ownsRow w.heap.size 5 1 v8 (dheadN 3 G n ++ vput (vint x0 true) ++ vput (vint x1 true) ++ tl).length ((dheadN 3 G n ++ vput (vint x0 true) ++ vput (vint x1 true) ++ tl).map bv) by
              rw [List.map_append, ← HX6.out, List.length_append, ← HK6.out, show tl.length = n7 by have := HM7.out; rwa [List.length_map] at this]
              exact own_base HBa.out.size hown8)
            have HB9 := Lib.hid (below_then HBa.out hb8)
            clear hown8 hb8 hown6 hzz6
            go_wp2
            go_ret2
            rw [HE2.out]
            exact ⟨_, rfl, HI9.out, HB9.out⟩
      · have hE := Lib.hid (gputE_none (s := true) (show gsizes l (gfalls l) (l.length - 1) = none from gsizes_none (k := i) (by omega) (gat_bad hbad)))
        clear hi hbad
        go_wp2
        go_ret2
        rw [hE.out]
        exact RetEO.nil _ hb1
    | false =>
      by_cases h0 : mn < 0
      · have d0 : decide (mn < 0) = true := decide_eq_true h0
        have hE := Lib.hid (gputE_no (l := l) (s := false) (.inl (by obtain ⟨x, hx, hx0⟩ := HNEG.out.1 h0; exact dplain_neg hx hx0)))
        clear h0
        go_enter Tryz.func126, Tryz.ntmps126
        go_wp2_with (first | (go_at_call 147; refine HC.out.mono ?_; rintro e w' ⟨rfl, rfl⟩) | (go_at_call 148; refine HMIN.out.mono ?_; rintro e w' ⟨rfl, rfl⟩))
        go_ret2
        rw [hE.out]
        exact RetEO.nil _ (Below.refl _ _)
      have d0 : decide (mn < 0) = false := decide_eq_false h0
      have HPL := Lib.hid (dplain_some (l := l) (s := false) (.inr fun x hx => by
        by_cases h : x < 0
        · exact absurd (HNEG.out.2 ⟨x, hx, h⟩) h0
        · omega))
      clear h0
      go_enter Tryz.func126, Tryz.ntmps126
      go_wp2_with (first | (go_at_call 147; refine HC.out.mono ?_; rintro e w' ⟨rfl, rfl⟩) | (go_at_call 148; refine HMIN.out.mono ?_; rintro e w' ⟨rfl, rfl⟩) | (go_at_call 149; refine HDF.out.mono ?_))
      rintro e w1 (⟨hok, dv1, rfl, hd1, hb1⟩ | ⟨⟨i, hi, hbad⟩, rfl, hb1⟩)
      · have HOK := Lib.hid (show ∀ i, i < m → (diffAt l i).2.2 = true from fun i hi => hok i (by have := HN.out; have := HM.out; omega))
        rw [HM.out] at hd1
        obtain ⟨DA, dn, dcap, rfl⟩ := hd1.shape
        have hdn : dn = m := by have := hd1.parts.1; rw [gpairs_len] at this; omega
        subst hdn
        have HD1 := Lib.hid hd1
        have HB1 := Lib.hid hb1
        have HT1 := Lib.hid (HT.out.below hb1 HT.out.lt)
        have HWAY := Lib.hid (way_any (gpairs l dn) (.slice DA dn dcap) w1 hd1 (by rw [gpairs_len]; exact hm1) (by rw [gpairs_len]; omega))
        clear hok hd1 hb1
        cases hway : dway (gpairs l dn) with
        | false =>
          have hE := Lib.hid (gputE_none (s := false) (show gsizes l (gfalls l) (l.length - 1) = none by rw [HM.out]; exact gsizes_turn hm1 HOK.out hway))
          rw [hway] at HWAY
          clear hway
          go_wp2_with (go_at_call 150; refine HWAY.out.mono ?_; rintro e w2 ⟨rfl, hb2⟩)
          go_ret2
          rw [hE.out]
          exact RetEO.nil _ (below_then HB1.out hb2)
        | true =>
          have HSZ := Lib.hid (gsizes_way hm1 HOK.out hway)
          have HSM := Lib.hid (dsame_all hm1 HOK.out hway)
          have hst := first_step hm1 HOK.out
          have hE := gputE_some (s := false) HPL.out (by have := HN.out; omega) (by have := HN.out; omega) (show gsizes l (gfalls l) (l.length - 1) = some (sizesOf (gpairs l dn)) by rw [HM.out]; exact HSZ.out)
          have hfi := (gfirst_diff (l := l) (us := sizesOf (gpairs l dn)) (by have := HN.out; omega) (by rw [HM.out]; exact HSZ.out)).2
          have h64 := gsizes_64 HSZ.out
          have HPK := Lib.hid (fun (w : World) ht hd => tpack_any l dn (.slice DA dn dcap) w ht hd hm1 (by omega) HSM.out)
          have hgn := gnum_le h64
          have HTB := Lib.hid (gtail_short (us := sizesOf (gpairs l dn)) (by rw [show (sizesOf (gpairs l dn)).length = dn by unfold sizesOf; rw [List.length_map, gpairs_len]]; omega) h64)
          unfold glay at hE
          obtain ⟨us, hus⟩ : ∃ us, us = sizesOf (gpairs l dn) := ⟨_, rfl⟩
          rw [← hus] at hE hst hfi HPK hgn HTB
          obtain ⟨G, hG⟩ : ∃ G, G = gnum us := ⟨_, rfl⟩
          obtain ⟨tl, htl⟩ : ∃ tl, tl = gtail us := ⟨_, rfl⟩
          obtain ⟨x1, hx1⟩ : ∃ x1, x1 = gfirst l us := ⟨_, rfl⟩
          obtain ⟨x0, hx0⟩ : ∃ x0, x0 = l.headD 0 := ⟨_, rfl⟩
          rw [← hG, ← htl, ← hx1, ← hx0, ← HN.out] at hE
          rw [← hG, ← htl] at HPK
          rw [← hG] at hgn
          rw [← htl] at HTB
          rw [← hx1] at hst hfi
          obtain ⟨u0, f0, ok0, hd0⟩ : ∃ u0 f0 ok0, diffAt l 0 = (u0, f0, ok0) := ⟨_, _, _, rfl⟩
          have hu0 : (u0 : Int) < 18446744073709551616 := by have h := gdiff_lt (l.getD 0 0) (l.getD (0 + 1) 0); unfold diffAt at hd0; rw [hd0] at h; dsimp only at h; omega
          rw [hd0] at hst
          have HSP := Lib.hid (fun (w : World) => step_any 0 u0 f0 w (by unfold inInt; omega) hu0)
          rw [hst] at HSP
          unfold RetG at HSP
          have HE2 := Lib.hid hE
          have HX1 := Lib.hid hfi
          have HG31 := Lib.hid hgn
          have HX0 := Lib.hid (show inInt x0 by rw [hx0]; exact HL0.out)
          have HC0 := Lib.hid (show ∀ W, Below w.heap.size w W → ∃ ad, A = some ad ∧ ad.block < W.heap.size ∧ W.cell? (ad.add 0) = some (.int .i64 x0) from fun W hW => by
            obtain ⟨ad, e1, e2, e3⟩ := (HV.out.below hW).at (k := 0) (by have := HN.out; omega)
            refine ⟨ad, e1, e2, ?_⟩
            rw [e3, hx0]
            cases l with
            | nil => have := HN.out; simp at this; omega
            | cons a t => rfl)
          have HDC := Lib.hid (show ∀ W, IsR dc (gpairs l dn) (.slice DA dn dcap) W → ∃ ad, DA = some ad ∧ ad.block < W.heap.size ∧ W.cell? ad = some (.int .u64 (u0 : Int)) ∧ W.cell? ⟨ad.block, ad.off + 1, none⟩ = some (.bool f0) from fun W hW => by
            obtain ⟨ad, e1, e2, e3⟩ := hW.at (m := 2) dc_len (by omega) (k := 0) (by rw [gpairs_len]; exact hm1)
            have e4 : (gpairs l dn)[0]? = some (u0, f0) := by rw [gpairs_get 0 hm1, hd0]; rfl
            rw [List.getElem?_eq_getElem (by rw [gpairs_len]; exact hm1)] at e4
            injection e4 with e4
            rw [e4] at e3
            have k0 := cells2 e3
            rw [Nat.zero_mul] at k0
            have ha0 : ad.add 0 = ad := by simp [Addr.add]
            rw [ha0] at k0
            exact ⟨ad, e1, e2, k0.1, k0.2⟩)
          rw [hway] at HWAY
          clear hway hE hst hfi h64 hgn hus hG htl hx1 hx0 hd0 hu0
          go_wp2_with fail
          refine HWAY.out.mono ?_
          rintro e w2 ⟨rfl, hb2⟩
          have HB2 := Lib.hid (below_then HB1.out hb2)
          have HT2 := Lib.hid (HT1.out.below hb2 HT1.out.lt)
          have HD2 := Lib.hid (HD1.out.below hb2)
          clear hb2
          go_wp2_with fail
          refine (HPK.out w2 HT2.out HD2.out).mono ?_
          rintro e w3 ⟨pv, rfl, hp3, hb3⟩
          have HB3 := Lib.hid (below_then HB2.out hb3)
          have HT3 := Lib.hid (HT2.out.below hb3 HT2.out.lt)
          have HP3 := Lib.hid hp3
          obtain ⟨da, rfl, hda, hdc1, hdc2⟩ := HDC.out w3 (HD2.out.below hb3)
          clear hb3 hp3
          have ha0 : da.add 0 = da := by simp [Addr.add]
          go_wp2_with fail
          refine (HSP.out w3).mono ?_
          rintro e w4 ⟨rfl, hb4⟩
          have HB4 := Lib.hid (below_then HB3.out hb4)
          have HT4 := Lib.hid (HT3.out.below hb4 HT3.out.lt)
          have HP4 := Lib.hid (IsB.below HP3.out hb4)
          clear hb4 hdc1 hdc2 hda ha0
          go_wp2
          obtain ⟨ad, rfl, had, _⟩ := HC0.out w4 HB4.out
          refine wp_region_list [.is (.int .i64 (G : Int)), .is (.slice (some ad) n c), .is (.int .i64 (n : Int)), .bytes (dheadN 3 G n), .is (.slice (some ad) n c), .is (.pointer (some (ad.add 0))), .is (.int .i64 x0), .is (.bool false), .bytes (dheadN 3 G n ++ vput (vint x0 false)), .bytes (dheadN 3 G n ++ vput (vint x0 false))] [some 55, some 56, some 57, some 58, some 59, some 60, some 61, some 62, some 63, some 13] (by kernel_rfl) (by kernel_rfl) (by kernel_rfl) rfl ⟨?_, ?_, ?_, ?_, ?_, ?_, ?_, ?_, ?_, ?_, trivial⟩ ?_
          · intro ρ W1 hb1 H
            exact gives_move rfl (H.old 8 _ (by kernel_rfl) rfl) ⟨rfl, Below.refl _ _⟩
          · intro ρ W1 hb1 H
            exact gives_move rfl (H.old 0 _ (by kernel_rfl) rfl) ⟨rfl, Below.refl _ _⟩
          · intro ρ W1 hb1 H
            exact gives_len Tryz.underlying47 rfl (H.new 56 1 (by kernel_rfl)) ⟨rfl, Below.refl _ _⟩
          · intro ρ W1 hb1 H
            have e0 : ρ (.tmp 55) = .int .i64 (G : Int) := H.new 55 0 (by kernel_rfl)
            have e1 : ρ (.tmp 57) = .int .i64 (n : Int) := H.new 57 2 (by kernel_rfl)
            refine gives_call rfl (fun _ _ => by kernel_rfl) (H.func _) (args := #[.int .i64 3, .int .i64 (G : Int), .int .i64 (n : Int)]) (by simp [e0, e1, H.const]) ?_
            have hG := HG31.out
            refine (dhead_any 3 (G : Int) (n : Int) W1 (HT4.out.below hb1 HT4.out.lt) (by unfold inInt; omega) (by unfold inInt; omega) (by unfold inInt; omega)).mono ?_
            rintro e w' ⟨u, h1, h2, h3⟩
            rw [show ((3 : Int)) = ((3 : Nat) : Int) from rfl, dhead_in (by omega) hG (by omega) (by omega)] at h2
            exact ⟨_, h1, h2, h3⟩
          · intro ρ W1 hb1 H
            exact gives_move rfl (H.old 0 _ (by kernel_rfl) rfl) ⟨rfl, Below.refl _ _⟩
          · intro ρ W1 hb1 H
            exact gives_index (k := 0) elemI rfl (H.new 59 4 (by kernel_rfl)) (H.const _) (by omega) ⟨rfl, Below.refl _ _⟩
          · intro ρ W1 hb1 H
            obtain ⟨ad', e1, _, e2⟩ := HC0.out W1 (below_then HB4.out hb1)
            injection e1 with e1
            subst e1
            exact gives_load rfl (H.new 60 5 (by kernel_rfl)) Tryz.underlying3 rfl e2 ⟨rfl, Below.refl _ _⟩
          · intro ρ W1 hb1 H
            exact gives_move rfl (H.old 1 _ (by kernel_rfl) rfl) ⟨rfl, Below.refl _ _⟩
          · intro ρ W1 hb1 H
            have e0 : IsB (dheadN 3 G n) (ρ (.tmp 58)) W1 := H.new 58 3 (by kernel_rfl)
            have e1 : ρ (.tmp 61) = .int .i64 x0 := H.new 61 6 (by kernel_rfl)
            have e2 : ρ (.tmp 62) = .bool false := H.new 62 7 (by kernel_rfl)
            obtain ⟨hv, hhv⟩ : ∃ hv, hv = ρ (.tmp 58) := ⟨_, rfl⟩
            rw [← hhv] at e0
            refine gives_call rfl (fun _ _ => by kernel_rfl) (H.func _) (args := #[hv, .int .i64 x0, .bool false]) (by simp [hhv, e1, e2]) ?_
            exact (putInt_isB x0 false e0 (by rw [dheadN_len]; omega) HX0.out.1 HX0.out.2).mono fun e w' ⟨u, h1, h2, h3⟩ => ⟨_, h1, h2, h3⟩
          · intro ρ W1 hb1 H
            exact gives_assign rfl rfl ⟨H.new 63 8 (by kernel_rfl), Below.refl _ _⟩
          · intro vs W1 hb1 hfs
            have f9 : IsB (dheadN 3 G n ++ vput (vint x0 false)) (vs 9) W1 := hfs 9 (by decide)
            clear hfs
            simp only [putAll, Nat.zero_add, Nat.reduceAdd]
            generalize vs 0 = z0
            generalize vs 1 = z1
            generalize vs 2 = z2
            generalize vs 3 = z3
            generalize vs 4 = z4
            generalize vs 5 = z5
            generalize vs 6 = z6
            generalize vs 7 = z7
            generalize vs 8 = z8
            generalize vs 9 = z9 at f9 ⊢
            simp only [Act.put, List.setIfInBounds_toArray, List.set_cons_succ, List.set_cons_zero]
            have HO := Lib.hid f9
            have HBa := Lib.hid (below_then HB4.out hb1)
            have HP5 := Lib.hid (IsB.below HP4.out hb1)
            have HLN := Lib.hid (show (dheadN 3 G n ++ vput (vint x0 false)).length ≤ 1000 by rw [List.length_append, dheadN_len]; have := vput_len_10 (x := vint x0 false) (vint_64 HX0.out); omega)
            clear f9 hb1
            go_wp2_with fail
            refine (putInt_isO x1 true HO.out (by have := HLN.out; omega) HX1.out.1 HX1.out.2).mono ?_
            rintro e w6 ⟨v6, rfl, hown6, hb6⟩
            have hp6 := IsB.below HP5.out hb6
            obtain ⟨A7, n7, c7, rfl⟩ := IsV.shape (f := bv) hp6
            obtain ⟨hn7, hA7, -, -, hl7⟩ := IsV.parts (f := bv) (show IsV bv _ _ _ from hp6)
            have hM7 : (tl.map bv).length = n7 := by rw [List.length_map]; exact hn7
            have hn7b : n7 ≤ 5000 := by rw [← hn7]; exact HTB.out
            have HM7 := Lib.hid hM7
            have hzz6 := hb6.size
            obtain ⟨K6, hK6⟩ : ∃ K, K = (dheadN 3 G n ++ vput (vint x0 false) ++ vput (vint x1 true)).length := ⟨_, rfl⟩
            have hK6b : K6 ≤ 2000 := by rw [hK6, List.length_append]; have := vput_len_10 (x := vint x1 true) (vint_64 HX1.out); have := HLN.out; omega
            rw [← hK6] at hown6
            have HK6 := Lib.hid hK6
            obtain ⟨xs6, hx6⟩ : ∃ xs, xs = (dheadN 3 G n ++ vput (vint x0 false) ++ vput (vint x1 true)).map bv := ⟨_, rfl⟩
            rw [← hx6] at hown6
            have HX6 := Lib.hid hx6
            clear hp6 hM7 hn7 hK6 hx6
            go_wp2_with (at_builtin; refine wpList_join elemB rfl _ _ rfl W1.heap.size _ _ _ _ _ _ (tl.map bv) W1 rfl rfl hA7 HM7.out hl7 (bv_one _) hown6 hb6 hzz6 (by omega) (by omega) ?_)
            intro v8 w8 hown8 hb8 _ _
            have HI9 := Lib.hid (show w8.ownsRow w.heap.size 5 1 v8 (dheadN 3 G n ++ vput (vint x0 false) ++ vput (vint x1 true) ++ tl).length ((dheadN 3 G n ++ vput (vint x0 false) ++ vput (vint x1 true) ++ tl).map bv) by
              rw [List.map_append, ← HX6.out, List.length_append, ← HK6.out, show tl.length = n7 by have := HM7.out; rwa [List.length_map] at this]
              exact own_base HBa.out.size hown8)
            have HB9 := Lib.hid (below_then HBa.out hb8)
            clear hown8 hb8 hown6 hzz6
            go_wp2
            go_ret2
            rw [HE2.out]
            exact ⟨_, rfl, HI9.out, HB9.out⟩
      · have hE := Lib.hid (gputE_none (s := false) (show gsizes l (gfalls l) (l.length - 1) = none from gsizes_none (k := i) (by omega) (gat_bad hbad)))
        clear hi hbad
        go_wp2
        go_ret2
        rw [hE.out]
        exact RetEO.nil _ hb1
theorem tput_any (l : List Int) (v : Value) (s : Bool) (w : World) (ht : WTab w) (hv : IsV iv l v w) (hl : ∀ x ∈ l, inInt x) (hb : l.length ≤ 1000000) : Calls Tryz.prog 126 #[v, .bool s] w (RetE w (gputE l s)) := (tput_own l v s w ht hv hl hb).mono fun _ _ h => h.e
end Go.Proofs.YtblpkmmhmdpkjaaGreatDoor

/- delta's own contracts: Take; all four together. -/



namespace Go.Proofs.YtblpkmmhmdpkjaaGreatDoor

open Go.RowKit

end Go.Proofs.YtblpkmmhmdpkjaaGreatDoor

/- Numbers of which a few are great (layer 10), as plain mathematics. -/



namespace Go.Proofs.YtblpkmmhmdpkjaaGreatDoor

/-- The least one. -/
def pbase (l : List Int) : Int := l.foldl min (l.headD 0)
theorem foldl_min_le : ∀ (l : List Int) (n : Int), l.foldl min n ≤ n ∧ ∀ x ∈ l, l.foldl min n ≤ x
  | [], n => ⟨Int.le_refl _, fun _ h => by cases h⟩
  | y :: l, n => by
    have h := foldl_min_le l (min n y)
    rw [List.foldl_cons]
    refine ⟨by omega, fun x hx => ?_⟩
    rcases List.mem_cons.1 hx with rfl | hx
    · omega
    · exact h.2 x hx
theorem foldl_min_mem : ∀ (l : List Int) (n : Int), l.foldl min n = n ∨ l.foldl min n ∈ l
  | [], n => .inl rfl
  | y :: l, n => by
    rw [List.foldl_cons]
    rcases foldl_min_mem l (min n y) with h | h
    · by_cases hn : n ≤ y
      · left; omega
      · right; rw [h, show min n y = y by omega]; exact List.mem_cons_self
    · exact .inr (List.mem_cons_of_mem _ h)
theorem pbase_le {l : List Int} {x : Int} (h : x ∈ l) : pbase l ≤ x := (foldl_min_le l _).2 x h
theorem pbase_mem {l : List Int} (h : 1 ≤ l.length) : pbase l ∈ l := by
  unfold pbase
  rcases foldl_min_mem l (l.headD 0) with h2 | h2
  · rw [h2]
    cases l with
    | nil => simp at h
    | cons a t => exact List.mem_cons_self
  · exact h2
def pone (base x : Int) : Option Nat := if (gdiff base x).2.2 = true then some (gdiff base x).1 else none
def pups (l : List Int) : Option (List Nat) := omap (pone (pbase l)) l
theorem pone_step {base x : Int} {u : Nat} (hx : inInt x) (hle : base ≤ x) (h : pone base x = some u) : gstep base u false = (x, true) ∧ (u : Int) < 9223372036854775808 := by
  unfold pone at h
  split at h
  · rename_i hk
    injection h with h
    subst h
    have h1 := gstep_gdiff (a := base) hx hk
    have h2 : (gdiff base x).2.1 = false := by
      rcases gdiff_cases base x with ⟨k, _⟩ | ⟨k1, _, _⟩ | ⟨_, _, k⟩
      · rw [k]
      · omega
      · rw [k]
    rw [h2] at h1
    exact ⟨h1, gdiff_lt base x⟩
  · cases h
theorem pups_len {l : List Int} {us : List Nat} (h : pups l = some us) : us.length = l.length := omap_len h
theorem pups_lt {l : List Int} {us : List Nat} (hl : ∀ x ∈ l, inInt x) (h : pups l = some us) : ∀ u ∈ us, (u : Int) < 9223372036854775808 := by
  intro u hu
  obtain ⟨x, hx, hu⟩ := omap_mem h hu
  exact (pone_step (hl x hx) (pbase_le hx) hu).2
/-- Pairs of a gap and a patch, of the first k numbers; and where the last one stands that is patched. -/
def pst (w : Nat) (us : List Nat) : Nat → List (Nat × Nat) × Nat
  | 0 => ([], 0)
  | k + 1 =>
    if us.getD k 0 / 2 ^ w = 0 then pst w us k
    else ((pst w us k).1 ++ (List.replicate ((k - (pst w us k).2 - 1) / 255) (255, 0) ++ [(k - (pst w us k).2 - 255 * ((k - (pst w us k).2 - 1) / 255), us.getD k 0 / 2 ^ w)]), k)
theorem pst_skip {w : Nat} {us : List Nat} {k : Nat} (h : us.getD k 0 / 2 ^ w = 0) : pst w us (k + 1) = pst w us k := by rw [pst, if_pos h]
theorem pst_more {w : Nat} {us : List Nat} {k : Nat} (h : us.getD k 0 / 2 ^ w ≠ 0) : pst w us (k + 1) = ((pst w us k).1 ++ (List.replicate ((k - (pst w us k).2 - 1) / 255) (255, 0) ++ [(k - (pst w us k).2 - 255 * ((k - (pst w us k).2 - 1) / 255), us.getD k 0 / 2 ^ w)]), k) := by rw [pst, if_neg h]
theorem pst_last (w : Nat) (us : List Nat) : ∀ k, (pst w us k).2 ≤ k
  | 0 => Nat.le_refl _
  | k + 1 => by
    have := pst_last w us k
    by_cases h : us.getD k 0 / 2 ^ w = 0
    · rw [pst_skip h]; omega
    · rw [pst_more h]; exact Nat.le_succ k
theorem pst_gap (w : Nat) (us : List Nat) : ∀ k, ∀ q ∈ (pst w us k).1, q.1 ≤ 255 ∧ (q.2 = 0 ∨ ∃ i, i < k ∧ q.2 = us.getD i 0 / 2 ^ w)
  | 0 => fun q hq => by cases hq
  | k + 1 => by
    intro q hq
    have ih := pst_gap w us k
    by_cases h : us.getD k 0 / 2 ^ w = 0
    · rw [pst_skip h] at hq
      obtain ⟨h1, h2⟩ := ih q hq
      exact ⟨h1, h2.imp id fun ⟨i, hi, h3⟩ => ⟨i, by omega, h3⟩⟩
    · rw [pst_more h] at hq
      simp only [List.mem_append, List.mem_replicate, List.mem_singleton] at hq
      rcases hq with hq | ⟨_, hq⟩ | hq
      · obtain ⟨h1, h2⟩ := ih q hq
        exact ⟨h1, h2.imp id fun ⟨i, hi, h3⟩ => ⟨i, by omega, h3⟩⟩
      · subst hq; exact ⟨Nat.le_refl _, .inl rfl⟩
      · subst hq; exact ⟨by dsimp only; omega, .inr ⟨k, by omega, rfl⟩⟩
def ppairs (w : Nat) (us : List Nat) : List (Nat × Nat) := (pst w us us.length).1
/-- The gap's width, and the patch's. -/
def pgw (ps : List (Nat × Nat)) : Nat := max 1 (wmost (ps.map (·.1)))
def ppw (ps : List (Nat × Nat)) : Nat := (wclosest (max 1 (wmost (ps.map (·.2))) : Nat)).toNat
def pcode (w : Nat) : Nat := (wcode (w : Int)).toNat
theorem wclose_all : ∀ n : Fin 65, 1 ≤ wclosest (n.val : Int) ∧ wclosest (n.val : Int) ≤ 64 ∧ (n.val : Int) ≤ wclosest (n.val : Int) ∧ 0 ≤ wcode (wclosest (n.val : Int)) ∧ wcode (wclosest (n.val : Int)) ≤ 31 ∧ wof (wcode (wclosest (n.val : Int))) = wclosest (n.val : Int) := by decide +kernel
theorem pclose {n : Nat} (h : n ≤ 64) : 1 ≤ (wclosest (n : Int)).toNat ∧ (wclosest (n : Int)).toNat ≤ 64 ∧ n ≤ (wclosest (n : Int)).toNat ∧ pcode (wclosest (n : Int)).toNat ≤ 31 ∧ wof (pcode (wclosest (n : Int)).toNat : Int) = ((wclosest (n : Int)).toNat : Int) ∧ wclosest (n : Int) = ((wclosest (n : Int)).toNat : Int) ∧ wcode ((wclosest (n : Int)).toNat : Int) = (pcode (wclosest (n : Int)).toNat : Int) := by
  have h1 := wclose_all ⟨n, by omega⟩
  dsimp only at h1
  have e : wclosest (n : Int) = ((wclosest (n : Int)).toNat : Int) := by omega
  have e2 : wcode ((wclosest (n : Int)).toNat : Int) = (pcode (wclosest (n : Int)).toNat : Int) := by unfold pcode; rw [← e]; omega
  refine ⟨by omega, by omega, by omega, ?_, ?_, e, e2⟩
  · rw [← e] at e2; omega
  · rw [← e2, ← e]; exact h1.2.2.2.2.2
theorem ppw_ok {w : Nat} {us : List Nat} (hu : ∀ u ∈ us, u < 2 ^ 64) : wmost ((ppairs w us).map (·.2)) ≤ 64 ∧ wmost ((ppairs w us).map (·.1)) ≤ 8 ∧ (∀ q ∈ ppairs w us, q.1 ≤ 255 ∧ q.2 < 2 ^ 64) := by
  have hq : ∀ q ∈ ppairs w us, q.1 ≤ 255 ∧ q.2 < 2 ^ 64 := by
    intro q hq
    obtain ⟨h1, h2⟩ := pst_gap w us us.length q hq
    refine ⟨h1, ?_⟩
    rcases h2 with h2 | ⟨i, hi, h2⟩
    · rw [h2]; exact Nat.two_pow_pos _
    · rw [h2, List.getD_eq_getElem?_getD, List.getElem?_eq_getElem hi]
      exact Nat.lt_of_le_of_lt (Nat.div_le_self _ _) (hu _ (List.getElem_mem hi))
  refine ⟨wmost_64 fun x hx => ?_, ?_, hq⟩
  · obtain ⟨q, hm, rfl⟩ := List.mem_map.1 hx
    exact (hq q hm).2
  · have h64 : ∀ x ∈ (ppairs w us).map (·.1), x < 2 ^ 64 := fun x hx => by
      obtain ⟨q, hm, rfl⟩ := List.mem_map.1 hx
      exact Nat.lt_of_le_of_lt (hq q hm).1 (by decide)
    rw [← wtop_bits h64]
    refine wbits_le (by omega) ?_
    have : ∀ (l : List Nat) (n : Nat), n ≤ 255 → (∀ x ∈ l, x ≤ 255) → l.foldl (fun n x => max n x) n ≤ 255 := by
      intro l
      induction l with
      | nil => intro n hn _; exact hn
      | cons y l ih => intro n hn h; rw [List.foldl_cons]; exact ih _ (by have := h y List.mem_cons_self; omega) fun x hx => h x (List.mem_cons_of_mem _ hx)
    have h2 := this ((ppairs w us).map (·.1)) 0 (by omega) fun x hx => by
      obtain ⟨q, hm, rfl⟩ := List.mem_map.1 hx
      exact (hq q hm).1
    unfold wtop
    show _ < 256
    omega
/-- A base as bytes. -/
def psize (base : Int) : Nat := (gdiff 0 base).1
def pn (base : Int) : Nat := wbits (psize base) / 8 + 1
def pbased (base : Int) : List UInt8 := be (pn base) (psize base + if base < 0 then 2 ^ (8 * pn base - 1) else 0)
def plow (us : List Nat) (w : Nat) : List Nat := us.map (· % 2 ^ w)
def pboth (ps : List (Nat × Nat)) (p : Nat) : List Nat := ps.map fun q => q.1 * 2 ^ p + q.2
def pheadb (base : Int) (ps : List (Nat × Nat)) : List UInt8 := [UInt8.ofNat (32 * (pn base - 1) + pcode (ppw ps)), UInt8.ofNat (32 * (pgw ps - 1) + ps.length)]
def play (base : Int) (us : List Nat) (w : Nat) : List UInt8 :=
  dheadN 2 (pcode w) us.length ++ pheadb base (ppairs w us) ++ pbased base ++ bpack (plow us w) w ++ bpack (pboth (ppairs w us) (ppw (ppairs w us))) (wclosest ((pgw (ppairs w us) + ppw (ppairs w us) : Nat) : Int)).toNat
/-- What Put answers. -/
def pputE (l : List Int) (W : Int) (s : Bool) : List UInt8 × Int :=
  if dplain l s = none ∨ l.length < 1 ∨ 512 < l.length ∨ wcode W < 0 ∨ 64 ≤ W then ([], 1)
  else match pups l with
    | none => ([], 1)
    | some us =>
      if pbase l = -9223372036854775808 ∨ 31 < (ppairs W.toNat us).length ∨ 64 < pgw (ppairs W.toNat us) + ppw (ppairs W.toNat us) ∨ 64 < W.toNat + ppw (ppairs W.toNat us) then ([], 1)
      else (play (pbase l) us W.toNat, 0)
/-- One pair is laid upon the numbers. -/
def pstep (w g p m : Nat) (st : Nat × List Nat) (v : Nat) : Option (Nat × List Nat) :=
  if v / 2 ^ p < 2 ^ g ∧ st.1 + v / 2 ^ p < m ∧ (wbits (v % 2 ^ p) + w ≤ 63 ∨ v % 2 ^ p = 0) then
    some (st.1 + v / 2 ^ p, st.2.set (st.1 + v / 2 ^ p) (st.2.getD (st.1 + v / 2 ^ p) 0 ^^^ (v % 2 ^ p * 2 ^ w)))
  else none
def pall (w g p m : Nat) : Nat × List Nat → List Nat → Option (Nat × List Nat)
  | st, [] => some st
  | st, v :: vs => match pstep w g p m st v with | none => none | some st' => pall w g p m st' vs
theorem pall_append (w g p m : Nat) (st : Nat × List Nat) (a b : List Nat) : pall w g p m st (a ++ b) = match pall w g p m st a with | none => none | some st' => pall w g p m st' b := by
  induction a generalizing st with
  | nil => rfl
  | cons v vs ih =>
    rw [List.cons_append, pall, pall]
    cases pstep w g p m st v with
    | none => rfl
    | some st' => exact ih st'
/-- What Take answers. -/
def pend (s : Bool) (base : Int) (w g p m : Nat) (low both : List Nat) (q : List UInt8) : List Int × List UInt8 × Int :=
  match pall w g p m (0, low) both with
  | none => gbad
  | some st => match omap (gnext s false base) st.2 with | none => gbad | some xs => (xs, q, 0)
def pbits (s : Bool) (base : Int) (c m : Int) (g p some_ : Nat) (r : List UInt8) : List Int × List UInt8 × Int :=
  match unpacksAny r m (wof c) with
  | (low, r3, e) => if e ≠ 0 then gbad else match unpacksAny r3 some_ (wclosest ((g + p : Nat) : Int)) with
    | (both, r4, e) => if e ≠ 0 then gbad else pend s base (wof c).toNat g p m.toNat low both r4
/-- The base that bytes are. -/
def pmade (x : List UInt8) : Int := if 2 ^ (8 * x.length - 1) ≤ bval x then -((bval x % 2 ^ (8 * x.length - 1) : Nat) : Int) else ((bval x % 2 ^ (8 * x.length - 1) : Nat) : Int)
def pbody (s : Bool) (c m : Int) (r : List UInt8) : List Int × List UInt8 × Int :=
  if r.length < 2 then gbad
  else if 64 < (r.getD 1 0).toNat / 32 + 1 + (wof ((r.getD 0 0).toNat % 32 : Nat)).toNat ∨ r.length - 2 < (r.getD 0 0).toNat / 32 + 1 then gbad
  else pbits s (pmade ((r.drop 2).take ((r.getD 0 0).toNat / 32 + 1))) c m ((r.getD 1 0).toNat / 32 + 1) (wof ((r.getD 0 0).toNat % 32 : Nat)).toNat ((r.getD 1 0).toNat % 32) ((r.drop 2).drop ((r.getD 0 0).toNat / 32 + 1))
def ptakeE (l : List UInt8) (s : Bool) : List Int × List UInt8 × Int :=
  if (dlook l).2.2.2.2 ≠ 0 ∨ (dlook l).1 ≠ 2 then gbad else pbody s (dlook l).2.1 (dlook l).2.2.1 (dlook l).2.2.2.1

/-- The bits below a place, and those above: together. -/
theorem xor_join (w a b : Nat) (ha : a < 2 ^ w) : a ^^^ (b * 2 ^ w) = a + b * 2 ^ w := by
  refine Nat.eq_of_testBit_eq fun i => ?_
  rw [Nat.testBit_xor, Nat.mul_comm b, Nat.add_comm a, Nat.testBit_two_pow_mul_add b ha]
  by_cases h : i < w
  · rw [if_pos h, Nat.testBit_two_pow_mul, decide_eq_false (by omega : ¬ w ≤ i)]
    simp
  · rw [if_neg h, Nat.testBit_two_pow_mul, decide_eq_true (by omega : w ≤ i)]
    have h2 : a.testBit i = false := Nat.testBit_lt_two_pow (Nat.lt_of_lt_of_le ha (Nat.pow_le_pow_right (by omega) (by omega)))
    rw [h2]
    simp
theorem patch_back (u w : Nat) : (u % 2 ^ w) ^^^ (u / 2 ^ w * 2 ^ w) = u := by
  rw [xor_join w _ _ (Nat.mod_lt _ (Nat.two_pow_pos w)), Nat.mul_comm]
  have := Nat.div_add_mod u (2 ^ w)
  omega
theorem pstep_of {w g p m : Nat} {st : Nat × List Nat} {gap patch : Nat} (hp : patch < 2 ^ p) (hg : gap < 2 ^ g) (hm : st.1 + gap < m) (hb : wbits patch + w ≤ 63 ∨ patch = 0) :
    pstep w g p m st (gap * 2 ^ p + patch) = some (st.1 + gap, st.2.set (st.1 + gap) (st.2.getD (st.1 + gap) 0 ^^^ (patch * 2 ^ w))) := by
  have e1 : (gap * 2 ^ p + patch) / 2 ^ p = gap := by rw [Nat.mul_comm, Nat.mul_add_div (Nat.two_pow_pos p), Nat.div_eq_of_lt hp, Nat.add_zero]
  have e2 : (gap * 2 ^ p + patch) % 2 ^ p = patch := by rw [Nat.mul_comm, Nat.mul_add_mod, Nat.mod_eq_of_lt hp]
  unfold pstep
  rw [e1, e2, if_pos ⟨hg, hm, hb⟩]
theorem set_same {low : List Nat} {k : Nat} : low.set k (low.getD k 0) = low := by
  by_cases h : k < low.length
  · rw [List.getD_eq_getElem?_getD, List.getElem?_eq_getElem h, Option.getD_some]; exact List.set_getElem_self h
  · exact List.set_eq_of_length_le (by omega)
/-- Pairs of the gap 255 and the patch 0 go on and change nothing. -/
theorem pall_fill {w g p m : Nat} (hg : 255 < 2 ^ g) : ∀ (j at_ : Nat) (low : List Nat), at_ + 255 * j < m → pall w g p m (at_, low) (pboth (List.replicate j (255, 0)) p) = some (at_ + 255 * j, low)
  | 0, at_, low, _ => by simp [pboth, pall]
  | j + 1, at_, low, h => by
    have hm : (at_, low).1 + 255 < m := Nat.lt_of_le_of_lt (Nat.add_le_add_left (by omega : 255 ≤ 255 * (j + 1)) at_) h
    have h1 := pstep_of (w := w) (p := p) (patch := 0) (Nat.two_pow_pos p) hg hm (.inr rfl)
    have h2 := pall_fill (w := w) (p := p) hg j (at_ + 255) low (by omega : at_ + 255 + 255 * j < m)
    rw [Nat.zero_mul, Nat.xor_zero, set_same] at h1
    dsimp only at h1
    unfold pboth at h2 ⊢
    rw [List.replicate_succ, List.map_cons, pall, h1]
    dsimp only
    rw [h2]
    congr 2
    omega
/-- What is patched of the first k numbers makes these again. -/
theorem pall_st {w g p : Nat} {us : List Nat} (hu : ∀ u ∈ us, (u : Int) < 9223372036854775808) (hw : w ≤ 63) : ∀ k, k ≤ us.length → (∀ q ∈ (pst w us k).1, q.1 < 2 ^ g ∧ q.2 < 2 ^ p) →
    pall w g p us.length (0, plow us w) (pboth (pst w us k).1 p) = some ((pst w us k).2, us.take k ++ (plow us w).drop k)
  | 0, _, _ => by simp [pst, pboth, pall]
  | k + 1, hk, h => by
    have hll : (plow us w).length = us.length := by simp [plow]
    have hkl : k < (plow us w).length := by omega
    have hd : (plow us w).drop k = (us[k] % 2 ^ w) :: (plow us w).drop (k + 1) := by rw [List.drop_eq_getElem_cons hkl]; simp [plow]
    have hgd : us.getD k 0 = us[k] := by rw [List.getD_eq_getElem?_getD, List.getElem?_eq_getElem (by omega)]; rfl
    by_cases h0 : us.getD k 0 / 2 ^ w = 0
    · rw [pst_skip h0] at h ⊢
      rw [pall_st hu hw k (by omega) h, hd, List.take_succ_eq_append_getElem (by omega), List.append_assoc]
      rw [hgd] at h0
      have : us[k] % 2 ^ w = us[k] := by have := Nat.div_add_mod us[k] (2 ^ w); rw [h0] at this; omega
      rw [this]
      rfl
    · rw [pst_more h0] at h ⊢
      have hlast := pst_last w us k
      obtain ⟨last, hl⟩ : ∃ last, last = (pst w us k).2 := ⟨_, rfl⟩
      obtain ⟨j, hj⟩ : ∃ j, j = (k - last - 1) / 255 := ⟨_, rfl⟩
      rw [← hl, ← hj] at h ⊢
      rw [← hl] at hlast
      have hih := pall_st hu hw k (by omega) fun q hq => h q (List.mem_append_left _ hq)
      have hone := h (k - last - 255 * j, us.getD k 0 / 2 ^ w) (List.mem_append_right _ (List.mem_append_right _ (List.mem_singleton.2 rfl)))
      rw [pboth, List.map_append, List.map_append, pall_append, ← pboth, hih]
      dsimp only
      rw [← hl, pall_append, ← pboth]
      have hfill : pall w g p us.length (last, us.take k ++ (plow us w).drop k) (pboth (List.replicate j (255, 0)) p) = some (last + 255 * j, us.take k ++ (plow us w).drop k) := by
        by_cases hj0 : j = 0
        · subst hj0; rfl
        · have h255 : 255 < 2 ^ g := (h (255, 0) (List.mem_append_right _ (List.mem_append_left _ (List.mem_replicate.2 ⟨hj0, rfl⟩)))).1
          exact pall_fill h255 j last _ (by omega)
      rw [hfill]
      dsimp only
      rw [List.map_cons, List.map_nil, pall]
      have hb : wbits (us.getD k 0 / 2 ^ w) + w ≤ 63 := by
        have h1 : us.getD k 0 / 2 ^ w < 2 ^ (63 - w) := by
          rw [Nat.div_lt_iff_lt_mul (Nat.two_pow_pos w), ← Nat.pow_add, show 63 - w + w = 63 by omega, hgd]
          have := hu us[k] (List.getElem_mem _)
          show us[k] < 9223372036854775808
          omega
        have := wbits_le (by omega) h1
        omega
      rw [pstep_of hone.2 hone.1 (by dsimp only; omega) (.inl hb)]
      dsimp only
      rw [show last + 255 * j + (k - last - 255 * j) = k by omega, pall]
      congr 2
      have htl : (us.take k).length = k := by rw [List.length_take]; omega
      rw [hd, List.getD_eq_getElem?_getD, List.getElem?_append_right (by omega), htl, Nat.sub_self, List.getElem?_cons_zero, Option.getD_some, hgd, patch_back, List.set_append_right _ _ (by omega), htl, Nat.sub_self, List.set_cons_zero, List.take_succ_eq_append_getElem (by omega), List.append_assoc]
      rfl
theorem wcode_back {x : Int} (h : 0 ≤ wcode x) : wof (wcode x) = x ∧ wcode x ≤ 31 := by
  refine ⟨?_, (wcode_bd x).2⟩
  unfold wcode at h ⊢
  cases hf : (List.range 32).find? fun i => wat i == x with
  | none => rw [hf] at h; dsimp only at h; omega
  | some i =>
    dsimp only
    have h1 := List.find?_some hf
    have h2 := List.mem_range.1 (List.mem_of_find?_eq_some hf)
    rw [wof_in h2]
    simpa using h1
theorem pcode_back {w : Nat} (h : 0 ≤ wcode (w : Int)) : wof (pcode w : Int) = (w : Int) ∧ pcode w ≤ 31 ∧ wcode (w : Int) = (pcode w : Int) := by
  have h1 := wcode_back h
  have e : wcode (w : Int) = (pcode w : Int) := by unfold pcode; omega
  rw [e] at h1
  exact ⟨h1.1, by omega, e⟩
theorem psize_base {base : Int} (h : inInt base) (h2 : base ≠ -9223372036854775808) : (psize base : Int) = (if base < 0 then -base else base) ∧ (psize base : Int) < 9223372036854775808 := by
  unfold inInt at h
  unfold psize
  rcases gdiff_cases 0 base with ⟨_, k⟩ | ⟨k1, k2, k⟩ | ⟨k1, k2, k⟩
  · omega
  · rw [k, if_pos k1]; dsimp only; omega
  · rw [k, if_neg (by omega)]; dsimp only; omega
theorem pn_bd {base : Int} (h : (psize base : Int) < 9223372036854775808) : 1 ≤ pn base ∧ pn base ≤ 8 ∧ psize base < 2 ^ (8 * pn base - 1) := by
  have h1 : psize base < 2 ^ 63 := by show psize base < 9223372036854775808; omega
  have h2 := wbits_le (by omega) h1
  have h3 := wbits_lt (x := psize base) (Nat.lt_trans h1 (by decide))
  unfold pn
  refine ⟨by omega, by omega, Nat.lt_of_lt_of_le h3 (Nat.pow_le_pow_right (by omega) (by omega))⟩
theorem pbased_len (base : Int) : (pbased base).length = pn base := be_len _ _
theorem pbased_bval {base : Int} (h : (psize base : Int) < 9223372036854775808) : bval (pbased base) = psize base + if base < 0 then 2 ^ (8 * pn base - 1) else 0 := by
  obtain ⟨h1, _, h3⟩ := pn_bd h
  unfold pbased
  rw [bval_be, Nat.mod_eq_of_lt]
  rw [p256, show 8 * pn base = (8 * pn base - 1) + 1 by omega, Nat.pow_succ, Nat.add_sub_cancel]
  split <;> omega
theorem pmade_back {base : Int} (h : inInt base) (h2 : base ≠ -9223372036854775808) : pmade (pbased base) = base := by
  obtain ⟨hs, hlt⟩ := psize_base h h2
  obtain ⟨_, _, h3⟩ := pn_bd hlt
  unfold pmade
  rw [pbased_len, pbased_bval hlt]
  generalize 2 ^ (8 * pn base - 1) = P at *
  by_cases hb : base < 0
  · rw [if_pos hb] at hs ⊢
    rw [if_pos (by omega), Nat.add_mod_right, Nat.mod_eq_of_lt h3]
    omega
  · rw [if_neg hb] at hs ⊢
    rw [if_neg (by omega), Nat.add_zero, Nat.mod_eq_of_lt h3]
    omega
theorem wtop_bound {l : List Nat} (h : ∀ x ∈ l, x < 2 ^ 64) {x : Nat} (hx : x ∈ l) : x < 2 ^ wmost l := by
  have h1 := (wbits_iff (wtop_lt h) (wmost_64 h)).1 (by rw [wtop_bits h]; exact Nat.le_refl _)
  exact Nat.lt_of_le_of_lt (wtop_mem hx) h1
/-- What is known of the pairs of numbers. -/
theorem ppairs_ok {w : Nat} {us : List Nat} (hu : ∀ u ∈ us, u < 2 ^ 64) :
    1 ≤ pgw (ppairs w us) ∧ pgw (ppairs w us) ≤ 8 ∧ 1 ≤ ppw (ppairs w us) ∧ ppw (ppairs w us) ≤ 64 ∧ wclosest ((max 1 (wmost ((ppairs w us).map (·.2))) : Nat) : Int) = (ppw (ppairs w us) : Int) ∧ wcode (ppw (ppairs w us) : Int) = (pcode (ppw (ppairs w us)) : Int) ∧ pcode (ppw (ppairs w us)) ≤ 31 ∧ wof (pcode (ppw (ppairs w us)) : Int) = (ppw (ppairs w us) : Int) ∧
    ∀ q ∈ ppairs w us, q.1 < 2 ^ pgw (ppairs w us) ∧ q.2 < 2 ^ ppw (ppairs w us) := by
  obtain ⟨h1, h2, h3⟩ := ppw_ok (w := w) hu
  obtain ⟨c1, c2, c3, c4, c5, c6, c7⟩ := pclose (n := max 1 (wmost ((ppairs w us).map (·.2)))) (by omega)
  have hg : pgw (ppairs w us) = max 1 (wmost ((ppairs w us).map (·.1))) := rfl
  refine ⟨by omega, by omega, c1, c2, c6, c7, c4, c5, fun q hq => ⟨?_, ?_⟩⟩
  · have := wtop_bound (l := (ppairs w us).map (·.1)) (fun x hx => by
      obtain ⟨q, hm, rfl⟩ := List.mem_map.1 hx
      exact Nat.lt_of_le_of_lt (h3 q hm).1 (by decide)) (List.mem_map_of_mem hq)
    exact Nat.lt_of_lt_of_le this (Nat.pow_le_pow_right (by omega) (by omega))
  · have := wtop_bound (l := (ppairs w us).map (·.2)) (fun x hx => by
      obtain ⟨q, hm, rfl⟩ := List.mem_map.1 hx
      exact (h3 q hm).2) (List.mem_map_of_mem hq)
    refine Nat.lt_of_lt_of_le this (Nat.pow_le_pow_right (by omega) ?_)
    show _ ≤ (wclosest ((max 1 (wmost ((ppairs w us).map (·.2))) : Nat) : Int)).toNat
    omega
theorem pboth_lt {ps : List (Nat × Nat)} {g p : Nat} (h : ∀ q ∈ ps, q.1 < 2 ^ g ∧ q.2 < 2 ^ p) : ∀ x ∈ pboth ps p, x < 2 ^ (g + p) := by
  intro x hx
  obtain ⟨q, hq, rfl⟩ := List.mem_map.1 hx
  obtain ⟨h1, h2⟩ := h q hq
  have : (q.1 + 1) * 2 ^ p ≤ 2 ^ g * 2 ^ p := Nat.mul_le_mul_right _ h1
  rw [Nat.pow_add]
  rw [Nat.add_mul] at this
  omega
theorem byte_low {n : Nat} (h : n < 256) : (UInt8.ofNat n).toNat = n := by simp only [UInt8.toNat_ofNat', Nat.reducePow]; exact Nat.mod_eq_of_lt h
/-- P10.3. -/
theorem ptake_back {l : List Int} {s : Bool} {us : List Nat} {w : Nat} (hl : ∀ x ∈ l, inInt x ∧ (s = true ∨ 0 ≤ x)) (h1 : 1 ≤ l.length) (h5 : l.length ≤ 512) (hc : 0 ≤ wcode (w : Int)) (hw : w < 64) (hu : pups l = some us)
    (hb : pbase l ≠ -9223372036854775808) (h31 : (ppairs w us).length ≤ 31) (hgp : pgw (ppairs w us) + ppw (ppairs w us) ≤ 64) (b : List UInt8) : ptakeE (play (pbase l) us w ++ b) s = (l, b, 0) := by
  have hbi : inInt (pbase l) := (hl _ (pbase_mem h1)).1
  obtain ⟨hs, hlt⟩ := psize_base hbi hb
  obtain ⟨n1, n8, _⟩ := pn_bd hlt
  have hu63 := pups_lt (fun x hx => (hl x hx).1) hu
  have hu64 : ∀ u ∈ us, u < 2 ^ 64 := fun u h => by have := hu63 u h; show u < 18446744073709551616; omega
  obtain ⟨g1, g8, p1, p64, _, _, pc, pw, hq⟩ := ppairs_ok (w := w) hu64
  obtain ⟨cw, c31, _⟩ := pcode_back hc
  have hul := pups_len hu
  obtain ⟨W2, hW2⟩ : ∃ W2, W2 = (wclosest ((pgw (ppairs w us) + ppw (ppairs w us) : Nat) : Int)).toNat := ⟨_, rfl⟩
  obtain ⟨_, d2, d3, _, _, d6, _⟩ := pclose hgp
  rw [← hW2] at d2 d3 d6
  have hbl := pboth_lt hq
  have hbl2 : ∀ x ∈ pboth (ppairs w us) (ppw (ppairs w us)), x < 2 ^ W2 := fun x hx => Nat.lt_of_lt_of_le (hbl x hx) (Nat.pow_le_pow_right (by omega) d3)
  have hst := pall_st (w := w) (g := pgw (ppairs w us)) (p := ppw (ppairs w us)) hu63 (by omega) us.length (Nat.le_refl _) hq
  have hpe : pboth (pst w us us.length).1 (ppw (ppairs w us)) = pboth (ppairs w us) (ppw (ppairs w us)) := rfl
  rw [hpe, List.take_of_length_le (Nat.le_refl _), List.drop_eq_nil_of_le (by simp [plow]), List.append_nil] at hst
  have hback : omap (gnext s false (pbase l)) us = some l := omap_back (fun x hx u h => by
    have h2 := pone_step (hl x hx).1 (pbase_le hx) h
    unfold gnext
    rw [h2.1]
    exact if_pos ⟨rfl, (hl x hx).2⟩) hu
  have hll : (plow us w).length = us.length := by simp [plow]
  have hpl : (pboth (ppairs w us) (ppw (ppairs w us))).length = (ppairs w us).length := by simp [pboth]
  generalize hps : ppairs w us = ps at *
  generalize hpp : ppw ps = p at *
  generalize hgg : pgw ps = g at *
  have e0 : (UInt8.ofNat (32 * (pn (pbase l) - 1) + pcode p)).toNat = 32 * (pn (pbase l) - 1) + pcode p := byte_low (by omega)
  have e1 : (UInt8.ofNat (32 * (g - 1) + ps.length)).toNat = 32 * (g - 1) + ps.length := byte_low (by omega)
  have hlook : dlook (play (pbase l) us w ++ b) = (2, (pcode w : Int), (us.length : Int), UInt8.ofNat (32 * (pn (pbase l) - 1) + pcode p) :: UInt8.ofNat (32 * (g - 1) + ps.length) :: (pbased (pbase l) ++ (bpack (plow us w) w ++ (bpack (pboth ps p) W2 ++ b))), 0) := by
    unfold play pheadb
    rw [hps, hpp, hgg, ← hW2]
    simp only [List.append_assoc, List.cons_append, List.nil_append]
    exact dlook_head (k := 2) (by omega) c31 (by omega) (by omega) _
  unfold ptakeE
  rw [hlook]
  dsimp only
  rw [if_neg (by omega)]
  unfold pbody
  simp only [List.getD_cons_zero, List.getD_cons_succ, List.drop_succ_cons, List.drop_zero, List.length_cons, List.length_append, e0, e1, pbased_len]
  rw [if_neg (by omega), show (32 * (pn (pbase l) - 1) + pcode p) % 32 = pcode p by omega, pw, Int.toNat_natCast, show (32 * (pn (pbase l) - 1) + pcode p) / 32 + 1 = pn (pbase l) by omega, show (32 * (g - 1) + ps.length) / 32 + 1 = g by omega, show (32 * (g - 1) + ps.length) % 32 = ps.length by omega,
    if_neg (by omega), List.take_left' (pbased_len _), List.drop_left' (pbased_len _), pmade_back hbi hb]
  unfold pbits
  rw [cw, unpacksAny_in _ _ _ (by omega) (by omega), ← hll, unpacks_back (fun x hx => by
    obtain ⟨u, _, rfl⟩ := List.mem_map.1 hx
    exact Nat.mod_lt _ (Nat.two_pow_pos w))]
  dsimp only
  rw [if_neg (by decide), d6, unpacksAny_in _ _ _ (by omega) d2, ← hpl, unpacks_back hbl2]
  dsimp only
  rw [if_neg (by decide), hll]
  unfold pend
  rw [Int.toNat_natCast, Int.toNat_natCast, hst]
  dsimp only
  rw [hback]
end Go.Proofs.YtblpkmmhmdpkjaaGreatDoor

/- What the walk of layer 10's Take asks, as plain mathematics. -/





namespace Go.Proofs.YtblpkmmhmdpkjaaGreatDoor

open Go.RowKit

end Go.Proofs.YtblpkmmhmdpkjaaGreatDoor

/- Contracts of layer 10's reference: above, pairs, based. -/











namespace Go.Proofs.YtblpkmmhmdpkjaaGreatDoor

open Go.RowKit

theorem pst_len (w : Nat) (us : List Nat) : ∀ k, (pst w us k).1.length ≤ k + (pst w us k).2 / 255
  | 0 => by simp [pst]
  | k + 1 => by
    have ih := pst_len w us k
    have hl := pst_last w us k
    by_cases h : us.getD k 0 / 2 ^ w = 0
    · rw [pst_skip h]; omega
    · rw [pst_more h]
      simp only [List.length_append, List.length_replicate, List.length_singleton]
      omega
theorem be_get : ∀ (m N j : Nat) (h : j < (be m N).length), (be m N)[j] = UInt8.ofNat (N / 256 ^ (m - 1 - j) % 256)
  | m + 1, N, 0, _ => by simp [be]
  | m + 1, N, j + 1, h => by
    have h' : j < (be m N).length := by simpa [be] using h
    have := be_get m N j h'
    simp only [be, List.getElem_cons_succ]
    rw [this, show m + 1 - 1 - (j + 1) = m - 1 - j by omega]
/-- The highest byte bears the sign. -/
theorem be_signed {n S b0 : Nat} (h1 : 1 ≤ n) (hS : S < 2 ^ (8 * n - 1)) (hb : b0 = S / 256 ^ (n - 1) % 256) : b0 < 128 ∧ (be n S).set 0 (UInt8.ofNat (b0 + 128)) = be n (S + 2 ^ (8 * n - 1)) := by
  have hp : 2 ^ (8 * n - 1) = 128 * 256 ^ (n - 1) := by rw [p256, show 8 * n - 1 = 7 + 8 * (n - 1) by omega, Nat.pow_add]
  have hpos : 0 < 256 ^ (n - 1) := Nat.pow_pos (by omega)
  have hlt : S / 256 ^ (n - 1) < 128 := by rw [Nat.div_lt_iff_lt_mul hpos, ← hp]; exact hS
  have hb1 : b0 < 128 := by rw [hb]; exact Nat.lt_of_le_of_lt (Nat.mod_le _ _) hlt
  refine ⟨hb1, eq_be (by rw [List.length_set, be_len]) ?_⟩
  have hl : 0 < (be n S).length := by rw [be_len]; omega
  have h2 := bval_set (be n S) 0 (UInt8.ofNat (b0 + 128)) hl
  rw [be_get n S 0 hl, be_len, Nat.sub_zero, ← hb] at h2
  have e1 : (UInt8.ofNat b0).toNat = b0 := byte_low (by omega)
  have e2 : (UInt8.ofNat (b0 + 128)).toNat = b0 + 128 := byte_low (by omega)
  have h3 : bval (be n S) = S := by
    rw [bval_be, Nat.mod_eq_of_lt]
    rw [p256, show 8 * n = (8 * n - 1) + 1 by omega, Nat.pow_succ]
    omega
  rw [e1, e2, h3, Nat.add_mul] at h2
  rw [hp]
  omega
end Go.Proofs.YtblpkmmhmdpkjaaGreatDoor

/- The contract of layer 10's reference's Put. -/





namespace Go.Proofs.YtblpkmmhmdpkjaaGreatDoor

open Go.RowKit

theorem pputE_no {l : List Int} {W : Int} {s : Bool} (h : dplain l s = none ∨ l.length < 1 ∨ 512 < l.length ∨ wcode W < 0 ∨ 64 ≤ W) : pputE l W s = ([], 1) := by unfold pputE; rw [if_pos h]
theorem pputE_ups {l : List Int} {W : Int} {s : Bool} (h : pups l = none) : pputE l W s = ([], 1) := by unfold pputE; split <;> simp [h]
theorem pputE_some {l : List Int} {W : Nat} {s : Bool} {us : List Nat} (h0 : dplain l s ≠ none) (h1 : 1 ≤ l.length) (h2 : l.length ≤ 512) (h3 : 0 ≤ wcode (W : Int)) (h4 : W < 64) (h : pups l = some us) :
    pputE l W s = if pbase l = -9223372036854775808 ∨ 31 < (ppairs W us).length ∨ 64 < pgw (ppairs W us) + ppw (ppairs W us) ∨ 64 < W + ppw (ppairs W us) then ([], 1) else (play (pbase l) us W, 0) := by
  unfold pputE
  rw [if_neg (by rintro (h | h | h | h | h) <;> first | exact h0 h | omega), h, Int.toNat_natCast]
theorem wcode_range {W : Int} (h : 0 ≤ wcode W) : 1 ≤ W ∧ W ≤ 64 := by
  obtain ⟨h1, h2⟩ := wcode_back h
  obtain ⟨c, hc⟩ := Int.eq_ofNat_of_zero_le h
  rw [hc] at h1 h2
  have h3 := wback ⟨c, by omega⟩
  dsimp only at h3
  have h4 := wof_bd (c : Int)
  rw [h1] at h3 h4
  omega
end Go.Proofs.YtblpkmmhmdpkjaaGreatDoor

/- The contract of layer 10's reference's Take. -/









namespace Go.Proofs.YtblpkmmhmdpkjaaGreatDoor

open Go.RowKit

theorem grown_trans {a b c : World} {g : Option Nat} (h1 : a.grownBy b g) (h2 : b.grownBy c g) : a.grownBy c g :=
  ⟨h2.os.trans h1.os, h2.tape.trans h1.tape, h2.output.trans h1.output, Nat.le_trans h1.size h2.size, fun k hk hg => (h2.block k (Nat.lt_of_lt_of_le hk h1.size) hg).trans (h1.block k hk hg)⟩
theorem grown_below {a b : World} {g : Option Nat} (h : Below a.heap.size a b) : a.grownBy b g := ⟨h.os, h.tape, h.output, h.size, fun k hk _ => h.block k hk⟩
end Go.Proofs.YtblpkmmhmdpkjaaGreatDoor

/- patched's own contracts: lowest, isCount, isWidth, and a shape's methods hasRoom and pairWidth. -/







namespace Go.Proofs.YtblpkmmhmdpkjaaGreatDoor

open Go.RowKit

theorem plow_any (n L : Nat) (w : World) (h : n ≤ 64) (hL : L = 2 ^ n - 1) : Calls Tryz.prog 197 #[.int .i64 (n : Int)] w fun e w' => e = .returned (.int .u64 (L : Int)) ∧ w = w' := by
  have h1 : 2 ^ n ≤ 2 ^ 64 := Nat.pow_le_pow_right (by omega) h
  have h2 : 1 ≤ 2 ^ n := Nat.one_le_two_pow
  have h3 : ((2 ^ n : Nat) : Int) = 2 ^ n := by simp
  have HE : Hid (IntKind.u64.wrap (IntKind.u64.wrap (2 ^ n) - 1) = (L : Int)) := Lib.hid (by
    rw [← h3, IntKind.wrap_u64, IntKind.wrap_u64, hL]
    generalize 2 ^ n = p at *
    omega)
  clear h1 h2 h3 hL
  go_enter Tryz.func197, Tryz.ntmps197
  go_wp2
  go_ret
  exact ⟨ret_int HE.out, rfl⟩
theorem pcount_yes (n : Int) (w : World) (h0 : 1 ≤ n) (h1 : n ≤ 512) : Calls Tryz.prog 185 #[.int .i64 n] w fun e w' => e = .returned (.bool true) ∧ w = w' := by
  go_enter Tryz.func185, Tryz.ntmps185
  go_wp2
  go_ret
  exact ⟨rfl, rfl⟩
theorem pcount_no (n : Int) (w : World) (h : n < 1 ∨ 512 < n) : Calls Tryz.prog 185 #[.int .i64 n] w fun e w' => e = .returned (.bool false) ∧ w = w' := by
  rcases h with h | h
  · have h2 : decide (1 ≤ n) = false := by simp; omega
    go_enter Tryz.func185, Tryz.ntmps185
    go_wp2
    go_ret
    exact ⟨rfl, rfl⟩
  · have h2 : decide (n ≤ 512) = false := by simp; omega
    have h3 : decide (1 ≤ n) = true := by simp; omega
    go_enter Tryz.func185, Tryz.ntmps185
    go_wp2
    go_ret
    exact ⟨rfl, rfl⟩
theorem pisw_any (W : Int) (w : World) (ht : WTab w) : Calls Tryz.prog 186 #[.int .i64 W] w fun e w' => e = .returned (.bool (decide (W < 64) && decide (0 ≤ wcode W))) ∧ w = w' := by
  have HC := Lib.hid (code_any W w ht)
  obtain ⟨c, hc⟩ : ∃ c, c = wcode W := ⟨_, rfl⟩
  rw [← hc] at HC ⊢
  clear ht hc
  by_cases h : W < 64
  · have h1 : decide (W < 64) = true := decide_eq_true h
    rw [h1, Bool.true_and]
    obtain ⟨d, hd⟩ : ∃ d, d = decide (0 ≤ c) := ⟨_, rfl⟩
    have hd' := hd.symm
    rw [hd']
    clear hd h
    go_enter Tryz.func186, Tryz.ntmps186
    go_wp2_with (go_at_call 142; refine HC.out.mono ?_; rintro e w' ⟨rfl, rfl⟩)
    go_ret
    exact ⟨rfl, rfl⟩
  · have h1 : decide (W < 64) = false := decide_eq_false h
    rw [h1, Bool.false_and]
    clear h
    go_enter Tryz.func186, Tryz.ntmps186
    go_wp2
    go_ret
    exact ⟨rfl, rfl⟩
/-- A shape's cells. -/
def shc (m W n p g t : Int) : List Value := [.int .i64 m, .int .i64 W, .int .i64 n, .int .i64 p, .int .i64 g, .int .i64 t]
def shv (m W n p g t : Int) : Value := .agg (shc m W n p g t).toArray
theorem shc_one (m W n p g t : Int) : ∀ u ∈ shc m W n p g t, u.oneCell' = true := by
  intro u hu
  simp only [shc, List.mem_cons, List.not_mem_nil, or_false] at hu
  rcases hu with h | h | h | h | h | h <;> (subst h; rfl)
theorem proom_any (m W n p g t : Int) (w : World) (hp : 0 ≤ p ∧ p ≤ 1000) (hg : 0 ≤ g ∧ g ≤ 1000) : Calls Tryz.prog 191 #[shv m W n p g t] w fun e w' => e = .returned (.bool (decide (g + p ≤ 64))) ∧ Below w.heap.size w w' := by
  have hw : IntKind.i64.wrap (g + p) = g + p := by rw [IntKind.wrap_i64]; omega
  obtain ⟨x, hx⟩ : ∃ x, x = g + p := ⟨_, rfl⟩
  rw [← hx] at hw ⊢
  have hx' := hx.symm
  obtain ⟨d, hd⟩ : ∃ d, d = decide (x ≤ 64) := ⟨_, rfl⟩
  have hd' := hd.symm
  rw [hd']
  clear hx hd hp hg
  unfold shv shc
  go_enter Tryz.func191, Tryz.ntmps191
  go_wp2
  go_ret
  exact ⟨rfl, (Below.refl _ _).alloc (Nat.le_refl _) _⟩
theorem ppair_any (m W n p g t : Int) (w : World) (ht : WTab w) (hp : 0 ≤ p ∧ p ≤ 1000) (hg : 0 ≤ g ∧ g ≤ 1000) : Calls Tryz.prog 162 #[shv m W n p g t] w fun e w' => e = .returned (.int .i64 (wclosest (g + p))) ∧ Below w.heap.size w w' := by
  have hw : IntKind.i64.wrap (g + p) = g + p := by rw [IntKind.wrap_i64]; omega
  obtain ⟨x, hx⟩ : ∃ x, x = g + p := ⟨_, rfl⟩
  rw [← hx] at hw ⊢
  have hx' := hx.symm
  have HC := Lib.hid (fun W (h : WTab W) => closest_any x W h)
  have HT := Lib.hid (ht.below ((Below.refl w.heap.size w).alloc (Nat.le_refl _) (.cells (shc m W n p g t).toArray 181)) ht.lt)
  unfold shc at HT
  clear hx hp hg ht
  unfold shv shc
  go_enter Tryz.func162, Tryz.ntmps162
  go_wp2_with (go_at_call 138; refine (HC.out _ HT.out).mono ?_; rintro e w' ⟨rfl, rfl⟩)
  go_ret
  exact ⟨rfl, (Below.refl _ _).alloc (Nat.le_refl _) _⟩
end Go.Proofs.YtblpkmmhmdpkjaaGreatDoor

/- patched's own contracts: digitsOf (a base as bytes), number (the base that bytes are). -/





namespace Go.Proofs.YtblpkmmhmdpkjaaGreatDoor

open Go.RowKit

theorem gdiff_base {base : Int} (hb : inInt base) (hne : base ≠ -9223372036854775808) : gdiff 0 base = (psize base, decide (base < 0), true) := by
  unfold inInt at hb
  unfold psize
  rcases gdiff_cases 0 base with ⟨_, k⟩ | ⟨k1, _, k⟩ | ⟨k1, _, k⟩
  · omega
  · rw [k, decide_eq_true k1]
  · rw [k, decide_eq_false (by omega)]
theorem gdiff_least : gdiff 0 (-9223372036854775808) = (0, false, false) := by decide
theorem digits_no (w : World) : Calls Tryz.prog 187 #[.int .i64 (-9223372036854775808)] w fun e w' => e = .returned (.tuple #[.slice none 0 0, .bool false]) ∧ Below w.heap.size w w' := by
  have HD := Lib.hid (tdiff_any 0 (-9223372036854775808) w (by unfold inInt; omega) (by unfold inInt; omega))
  rw [gdiff_least] at HD
  go_enter Tryz.func187, Tryz.ntmps187
  go_wp2_with fail
  refine HD.out.mono ?_
  rintro e w1 ⟨rfl, hb1⟩
  go_wp2
  go_ret2
  exact ⟨rfl, hb1⟩
/-- The bytes are laid from the last one on. -/
def DgRel (S n g : Nat) (w : World) (i : Value) (wr : World) : Prop := ∃ k : Nat, k ≤ n ∧ i = .int .i64 (k : Int) ∧ Row wr g 5 ((List.replicate (n - k) (0 : UInt8) ++ be k S).map bv) ∧ Below w.heap.size w wr
theorem dg_step {S n k : Nat} (hk : k < n) : (List.replicate (n - k) (0 : UInt8) ++ be k S).set (n - 1 - k) (UInt8.ofNat (S / 256 ^ k % 256)) = List.replicate (n - (k + 1)) 0 ++ be (k + 1) S := by
  obtain ⟨m, hm⟩ : ∃ m, n - k = m + 1 := ⟨n - k - 1, by omega⟩
  rw [hm, show n - 1 - k = m by omega, show n - (k + 1) = m by omega, List.replicate_succ', List.append_assoc, List.set_append_right _ _ (by simp), List.length_replicate, Nat.sub_self]
  rfl
def RetDg (base : Int) (w : World) (e : Ending) (w' : World) : Prop :=
  ∃ g, e = .returned (.tuple #[.slice (some ⟨g, 0, none⟩) (pn base) (pn base), .bool true]) ∧ w.heap.size ≤ g ∧ Row w' g 5 ((pbased base).map bv) ∧ Below w.heap.size w w'
set_option maxHeartbeats 2000000 in
set_option maxRecDepth 100000 in
theorem digits_yes (base : Int) (w : World) (hb : inInt base) (hne : base ≠ -9223372036854775808) : Calls Tryz.prog 187 #[.int .i64 base] w (RetDg base w) := by
  obtain ⟨_, hlt⟩ := psize_base hb hne
  obtain ⟨n1, n8, hS8⟩ := pn_bd hlt
  have hg := gdiff_base hb hne
  unfold RetDg
  obtain ⟨S, hS⟩ : ∃ S, S = psize base := ⟨_, rfl⟩
  obtain ⟨n, hn⟩ : ∃ n, n = pn base := ⟨_, rfl⟩
  obtain ⟨f, hf⟩ : ∃ f, f = decide (base < 0) := ⟨_, rfl⟩
  rw [← hS, ← hf] at hg
  have HD := Lib.hid (tdiff_any 0 base w (by unfold inInt; omega) hb)
  rw [hg] at HD
  have hpb : pbased base = be n (S + if f = true then 2 ^ (8 * n - 1) else 0) := by
    unfold pbased
    rw [← hS, ← hn]
    congr 2
    rw [hf]
    by_cases h : base < 0
    · rw [if_pos h, if_pos (by simpa using h)]
    · rw [if_neg h, if_neg (by simpa using h)]
  obtain ⟨B, hB⟩ : ∃ B, B = wbits S := ⟨_, rfl⟩
  have HBI := Lib.hid (fun W => bits_any S W (by rw [hS]; show psize base < 18446744073709551616; omega))
  rw [← hB] at HBI
  obtain ⟨Q, hQ⟩ : ∃ Q, Q = B / 8 := ⟨_, rfl⟩
  have hnq : n = Q + 1 := by rw [hn, hQ, hB, hS]; rfl
  have hBq : (B : Int) / 8 = (Q : Int) := by omega
  rw [← hn] at n1 n8 hS8 ⊢
  rw [← hS] at hS8
  have HPB := Lib.hid hpb
  have HS8 := Lib.hid hS8
  have hQn : (Q : Int) + 1 = (n : Int) := by omega
  have hnw : IntKind.i64.wrap (n : Int) = (n : Int) := by rw [IntKind.wrap_i64]; omega
  clear hlt hS hn hf hg hpb hB hQ hnq hS8 hb hne
  go_enter Tryz.func187, Tryz.ntmps187
  go_wp2_with fail
  refine HD.out.mono ?_
  rintro e w1 ⟨rfl, hb1⟩
  have HB1 := Lib.hid hb1
  have hz1 := hb1.size
  clear hb1
  go_wp2_with (first | (go_at_call 171; refine (HBI.out _).mono ?_; rintro e w' ⟨rfl, rfl⟩) | (refine wpList_make elemB rfl _ _ rfl _ _ _ _ n w w.heap.size rfl rfl (by first | exact hQn | rfl) (by first | exact hQn | rfl) (by omega) (by omega) HB1.out hz1 ?_))
  intro w2 hr2 hb2
  have HS := Lib.hid (show DgRel S n w1.heap.size w (.int .i64 0) w2 from ⟨0, Nat.zero_le _, rfl, by rw [Nat.sub_zero]; simpa [be] using hr2, hb2⟩)
  clear hr2 hb2
  go_wp2
  go_loopw [24] (DgRel S n w1.heap.size w) (fun i _ => n - (intOf i).toNat)
  case atStart => exact HS.out
  case round =>
    obtain ⟨k, hk, rfl, hr, hbw⟩ := hrel
    have HBW := Lib.hid hbw
    have hgr := hr.lt
    by_cases hlt : k < n
    · have hlti : (k : Int) < (n : Int) := by omega
      obtain ⟨I, hI⟩ : ∃ I, I = n - 1 - k := ⟨_, rfl⟩
      have hIi : (n : Int) - 1 - (k : Int) = (I : Int) := by omega
      have hn1 : IntKind.i64.wrap ((n : Int) - 1) = (n : Int) - 1 := by rw [IntKind.wrap_i64]; omega
      have hIw : IntKind.i64.wrap (I : Int) = (I : Int) := by rw [IntKind.wrap_i64]; omega
      obtain ⟨T, hT⟩ : ∃ T, T = S / 2 ^ (8 * k) := ⟨_, rfl⟩
      obtain ⟨M, hM⟩ : ∃ M, M = 8 * k := ⟨_, rfl⟩
      have hMi : 8 * (k : Int) = (M : Int) := by omega
      have hMw : IntKind.i64.wrap (M : Int) = (M : Int) := by rw [IntKind.wrap_i64]; omega
      have hsh : (S : Int) / 2 ^ M = (T : Int) := by rw [hT, hM]; simp
      obtain ⟨C, hC⟩ : ∃ C, C = T % 256 := ⟨_, rfl⟩
      have hC256 : C < 256 := by omega
      have hCw : IntKind.u8.wrap (T : Int) = (C : Int) := by rw [IntKind.wrap_u8]; omega
      have hTm : (T : Int) % 256 = (C : Int) := by omega
      have hset := row_set hr I C hC256
      rw [hC, hT, ← p256, hI, dg_step hlt, ← hI, p256, ← hT, ← hC] at hset
      have HSET := Lib.hid hset
      have HB3 := Lib.hid (hbw.setCell (p := ⟨w1.heap.size, I, none⟩) hz1 (.int .u8 (C : Int)))
      have hcu : ∃ u, wr.cell? ⟨w1.heap.size, I, none⟩ = some u := by
        rw [hr.cell]
        exact ⟨_, List.getElem?_eq_getElem (by simp [be_len]; omega)⟩
      obtain ⟨u0, hcu⟩ := hcu
      have hfr := hr.free I
      have hIn : (I : Int) < (n : Int) := by omega
      have hM64 : M < 64 := by omega
      clear hset hr hT hC hI hM hbw
      go_wp2
      go_roundw
      case rel => exact ⟨k + 1, hlt, by go_num, HSET.out, HB3.out⟩
      case measure => simp [intOf]; omega
    · obtain rfl : k = n := by omega
      rw [Nat.sub_self, List.replicate_zero, List.nil_append] at hr
      clear hbw
      cases f with
      | false =>
        have HE : Hid (pbased base = be k S) := Lib.hid (by rw [HPB.out]; rfl)
        have HO := Lib.hid hr
        clear hr
        go_wp2
        go_ret2
        rw [HE.out]
        exact ⟨_, rfl, hz1, HO.out, HBW.out⟩
      | true =>
        have HE : Hid (pbased base = be k (S + 2 ^ (8 * k - 1))) := Lib.hid (by rw [HPB.out]; rfl)
        obtain ⟨b0, hb0⟩ : ∃ b0, b0 = S / 256 ^ (k - 1) % 256 := ⟨_, rfl⟩
        obtain ⟨hb1, hbe⟩ := be_signed n1 HS8.out hb0
        have hc0 : wr.cell? ⟨w1.heap.size, 0, none⟩ = some (.int .u8 (b0 : Int)) := by
          rw [hr.cell, List.getElem?_map, List.getElem?_eq_getElem (by rw [be_len]; omega), be_get, Nat.sub_zero, ← hb0]
          show some (bv (UInt8.ofNat b0)) = _
          rw [← bv_low7 (by omega)]
        have hf0 := hr.free 0
        obtain ⟨C, hC⟩ : ∃ C, C = b0 + 128 := ⟨_, rfl⟩
        have hor : bits .or .u8 (b0 : Int) 128 = (C : Int) := by rw [u8_or128 _ (by omega) (by omega)]; omega
        have hst := row_set hr 0 C (by omega)
        rw [hC, hbe, ← hC] at hst
        have HO := Lib.hid hst
        have HB := Lib.hid (HBW.out.setCell (p := ⟨w1.heap.size, 0, none⟩) hz1 (.int .u8 (C : Int)))
        have hn0 : (0 : Int) < (k : Int) := by omega
        clear hst hr hb0 hbe hC
        go_wp2
        go_ret2
        rw [HE.out]
        exact ⟨_, rfl, hz1, HO.out, HB.out⟩
end Go.Proofs.YtblpkmmhmdpkjaaGreatDoor

/- patched's own contracts: sizesFrom, numbersFrom. -/



namespace Go.Proofs.YtblpkmmhmdpkjaaGreatDoor

open Go.RowKit

/-- Numbers in a row of the call's own, or none. -/
def RetSz (o : Option (List Nat)) (w : World) (e : Ending) (w' : World) : Prop :=
  match o with
  | none => e = .returned (.tuple #[.slice none 0 0, .bool false]) ∧ Below w.heap.size w w'
  | some us => ∃ g, e = .returned (.tuple #[.slice (some ⟨g, 0, none⟩) us.length us.length, .bool true]) ∧ w.heap.size ≤ g ∧ Row w' g 101 (us.map uv) ∧ Below w.heap.size w w'
set_option maxHeartbeats 2000000 in
set_option maxRecDepth 100000 in
theorem sizes_any (base : Int) (l : List Int) (v : Value) (w : World) (hv : IsV iv l v w) (hbi : inInt base) (hl : ∀ x ∈ l, inInt x) (hb : l.length ≤ 1000000) :
    Calls Tryz.prog 188 #[.int .i64 base, v] w (RetSz (omap (pone base) l) w) := by
  obtain ⟨A, n, c, rfl⟩ := hv.shape
  have HN := Lib.hid hv.parts.1
  have HV := Lib.hid hv
  have HL := Lib.hid hl
  have hn6 : n ≤ 1000000 := by have := HN.out; omega
  clear hv hl hb
  go_enter Tryz.func188, Tryz.ntmps188
  go_wp2_with (refine wpList_make elemU rfl _ _ rfl _ _ _ _ n w w.heap.size rfl rfl rfl rfl (by omega) (by omega) (Below.refl _ _) (Nat.le_refl _) ?_)
  intro w1 hr1 hb1
  have HS := Lib.hid (show FillRel (pone base) uv (uv 0) 101 l w (.int .i64 0) w1 from ⟨0, [], Nat.zero_le _, rfl, rfl, by rw [Nat.sub_zero, HN.out]; simpa [uv] using hr1, hb1⟩)
  clear hr1 hb1
  go_wp2
  go_loopw [17] (FillRel (pone base) uv (uv 0) 101 l w) (fun i _ => n - (intOf i).toNat)
  case atStart => exact HS.out
  case round =>
    obtain ⟨k, acc, hk, rfl, hacc, hr, hbw⟩ := hrel
    have hal : acc.length = k := by rw [omap_len hacc, List.length_take]; omega
    rw [HN.out] at hr
    have HACC := Lib.hid hacc
    have HAL := Lib.hid hal
    have HB := Lib.hid hbw
    have HR := Lib.hid hr
    have hk' : k ≤ n := by have := HN.out; omega
    clear hacc hal hk hr
    by_cases hlt : k < n
    · have hkl : k < l.length := by have := HN.out; omega
      have hlti : (k : Int) < (n : Int) := by omega
      obtain ⟨ad, rfl, _, hcell⟩ := (HV.out.below hbw).at hkl
      obtain ⟨x, hx⟩ : ∃ x, x = l[k] := ⟨_, rfl⟩
      have hcx : wr.cell? (ad.add k) = some (.int .i64 x) := by rw [hcell, hx]; rfl
      have hxb : inInt x := by rw [hx]; exact HL.out _ (List.getElem_mem hkl)
      have HX := Lib.hid hx
      have HD := Lib.hid (tdiff_any base x wr hbi hxb)
      obtain ⟨u, d, o, hg⟩ : ∃ u d o, gdiff base x = (u, d, o) := ⟨_, _, _, rfl⟩
      rw [hg] at HD
      have HP := Lib.hid (show pone base x = if o = true then some u else none by unfold pone; rw [hg])
      clear hcell hx hxb hg hbw
      go_wp2_with fail
      refine HD.out.mono ?_
      rintro e w2 ⟨rfl, hb2⟩
      have HB2 := Lib.hid (below_then HB.out hb2)
      cases o with
      | false =>
        have hE := Lib.hid (show omap (pone base) l = none from omap_none (x := x) (by rw [HX.out]; exact List.getElem_mem hkl) (by rw [HP.out]; rfl))
        clear hb2
        go_wp2
        go_ret2
        rw [hE.out]
        exact ⟨rfl, HB2.out⟩
      | true =>
        have hnext := Lib.hid (show omap (pone base) (l.take (k + 1)) = some (acc ++ [u]) from omap_take hkl HACC.out (by rw [← HX.out, HP.out]; rfl))
        have hr2 := HR.out.below hb2 HR.out.lt
        have hfx := hr2.free k
        have hcu : ∃ y, w2.cell? ⟨w.heap.size, k, none⟩ = some y := by
          rw [hr2.cell]
          exact ⟨_, List.getElem?_eq_getElem (by rw [List.length_append, List.length_map, List.length_replicate]; have := HAL.out; omega)⟩
        obtain ⟨u0, hcu⟩ := hcu
        have hset := hr2.set_ k (uv u)
        rw [fill_step hlt HAL.out] at hset
        have HSET := Lib.hid hset
        have HB3 := Lib.hid (HB2.out.setCell (p := ⟨w.heap.size, k, none⟩) (Nat.le_refl _) (uv u))
        clear hset hr2 hb2
        go_wp2
        go_roundw
        case rel => exact ⟨k + 1, _, hkl, by go_num, hnext.out, by rw [HN.out]; exact HSET.out, HB3.out⟩
        case measure => simp [intOf]; omega
    · obtain rfl : k = n := by omega
      have hlti : ¬ (k : Int) < (k : Int) := by omega
      have hE : Hid (omap (pone base) l = some acc) := Lib.hid (by
        have h1 := HACC.out
        rwa [List.take_of_length_le (by have := HN.out; omega)] at h1)
      have hr := HR.out
      rw [Nat.sub_self, List.replicate_zero, List.append_nil] at hr
      have HRR := Lib.hid hr
      clear hr hbw
      go_wp2
      go_ret2
      rw [hE.out]
      exact ⟨w.heap.size, by rw [HAL.out]; rfl, Nat.le_refl _, HRR.out, HB.out⟩
end Go.Proofs.YtblpkmmhmdpkjaaGreatDoor

/- patched's own contracts: cut, with its closure add. -/



namespace Go.Proofs.YtblpkmmhmdpkjaaGreatDoor

open Go.RowKit

/-- Two rows of numbers of the call's own, that grow turn about. -/
structure Two (w : World) (B : Nat) (u v : Value) (n m : Nat) (xs ys : List Value) : Prop where
  h1 : w.ownsRow B 101 1 u n xs
  h2 : w.ownsRow B 101 1 v m ys
  d : ∀ a, u.ownBlock = some a → v.ownBlock = some a → False
theorem Two.turn {w : World} {B n m : Nat} {u v : Value} {xs ys : List Value} (h : Two w B u v n m xs ys) : Two w B v u m n ys xs := ⟨h.h2, h.h1, fun a p q => h.d a q p⟩
theorem Two.below {w w' : World} {B n m : Nat} {u v : Value} {xs ys : List Value} (h : Two w B u v n m xs ys) (hb : Below w.heap.size w w') : Two w' B u v n m xs ys := ⟨own_below h.h1 hb, own_below h.h2 hb, h.d⟩
theorem Two.past {w w' : World} {B n m g : Nat} {u v : Value} {xs ys : List Value} (h : Two w B u v n m xs ys) (hg : w.grownBy w' (some g)) (hlt : g < B) : Two w' B u v n m xs ys := ⟨own_past h.h1 hg hlt, own_past h.h2 hg hlt, h.d⟩
theorem own_lt {w : World} {B n a : Nat} {e : TypeId} {v : Value} {xs : List Value} (h : w.ownsRow B e 1 v n xs) (ha : v.ownBlock = some a) : a < w.heap.size := by
  rcases h.2 with ⟨h1, _⟩ | ⟨g, c, cur, h1, _, h3, _⟩
  · rw [h1] at ha; cases ha
  · rw [h1] at ha; injection ha with ha; subst ha; exact (Array.getElem?_eq_some_iff.1 h3).1
theorem Two.push {w w' : World} {B n n' m k : Nat} {u v u' : Value} {xs xs' ys : List Value} (h : Two w B u v n m xs ys) (ho : w'.ownsRow B 101 1 u' n' xs') (hg : w.grownBy w' u.ownBlock) (hq : u'.ownBlock = u.ownBlock ∨ u'.ownBlock = some k) (hk : w.heap.size ≤ k) : Two w' B u' v n' m xs' ys := by
  refine ⟨ho, h.h2.kept hg ?_, ?_⟩
  · cases hv : v.ownBlock with
    | none => exact .inl rfl
    | some a => exact .inr fun he => h.d a he.symm hv
  · intro a h1 h2
    rcases hq with hq | hq
    · exact h.d a (hq ▸ h1) h2
    · rw [hq] at h1
      injection h1 with h1
      have := own_lt h.h2 h2
      omega
theorem Two.nil (w : World) (B : Nat) : Two w B (.slice none 0 0) (.slice none 0 0) 0 0 [] [] := ⟨World.ownsRow_nil _ _ _ _, World.ownsRow_nil _ _ _ _, fun a h => by cases h⟩
def AddPost (m B b a : Nat) (n A gap patch : Nat) (xs ys : List Nat) (w : World) (e : Ending) (w' : World) : Prop :=
  ∃ u v, e = .returned (.tuple #[]) ∧ Row w' b 209 [u, v] ∧ Row w' a 3 [.int .i64 ((A + gap : Nat) : Int)] ∧ Two w' B u v (n + 1) (n + 1) ((xs ++ [gap]).map uv) ((ys ++ [patch]).map uv) ∧ Below m w w'
set_option maxHeartbeats 2000000 in
set_option maxRecDepth 100000 in
theorem add_any (m B b a n A gap patch : Nat) (u v : Value) (xs ys : List Nat) (w : World) (hrb : Row w b 209 [u, v]) (hra : Row w a 3 [.int .i64 (A : Int)]) (hmb : m ≤ b) (hma : m ≤ a) (hbB : b < B) (haB : a < B) (hab : a ≠ b) (hB : B ≤ w.heap.size)
    (h2 : Two w B u v n n (xs.map uv) (ys.map uv)) (hn : n ≤ 1000000) (hA : A ≤ 1000000) (hgap : gap ≤ 1000000) :
    Calls Tryz.prog 208 #[.int .i64 (gap : Int), .int .u64 (patch : Int), .pointer (some ⟨b, 0, none⟩), .pointer (some ⟨a, 0, none⟩)] w (AddPost m B b a n A gap patch xs ys w) := by
  have hgw : IntKind.u64.wrap (gap : Int) = (gap : Int) := by rw [IntKind.wrap_u64]; omega
  have hc0 : w.cell? ⟨b, 0, none⟩ = some u := hrb.cell 0
  have H2 := Lib.hid h2
  have HRB := Lib.hid hrb
  have HRA := Lib.hid hra
  clear hrb hra h2
  go_enter Tryz.func208, Tryz.ntmps208
  go_wp2_with (at_builtin; refine wpList_push elemU rfl _ _ rfl B u n (xs.map uv) (uv gap) w w rfl rfl rfl rfl H2.out.h1 (Below.refl _ _) hB (by omega) (by omega) ?_)
  intro u1 w1 ho1 hb1 hg1 hq1
  obtain ⟨A1, c1, hu1, _⟩ := own_shape ho1
  subst hu1
  have hz1 := hb1.size
  have HT1 := Lib.hid (H2.out.push ho1 hg1 hq1 (Nat.le_succ _))
  have hrb1 := HRB.out.below hb1 hbB
  have hra1 := HRA.out.below hb1 haB
  have hcb : w1.cell? ⟨b, 0, none⟩ = some u := hrb1.cell 0
  have hfb := hrb1.free 0
  have hset := hrb1.set_ 0 (.slice A1 (n + 1) c1)
  rw [show [u, v].set 0 (.slice A1 (n + 1) c1) = [.slice A1 (n + 1) c1, v] from rfl] at hset
  have HRB2 := Lib.hid hset
  have HRA2 := Lib.hid (hra1.far (p := ⟨b, 0, none⟩) hab (.slice A1 (n + 1) c1))
  have HS2 := Lib.hid (HT1.out.past (grown_set w1 b 0 (.slice A1 (n + 1) c1)) hbB).turn
  have hc1 : (w1.setCell ⟨b, 0, none⟩ (.slice A1 (n + 1) c1)).cell? ⟨b, 1, none⟩ = some v := hset.cell 1
  have HZS := Lib.hid (show Value.slice (some ⟨w1.heap.size, 0, none⟩) 1 1 = .slice (some ⟨(w1.setCell ⟨b, 0, none⟩ (.slice A1 (n + 1) c1)).heap.size, 0, none⟩) 1 1 by simp)
  have HBM := Lib.hid ((hb1.mono (Nat.le_of_lt (Nat.lt_of_le_of_lt hmb hbB))).setCell (p := ⟨b, 0, none⟩) hmb (.slice A1 (n + 1) c1))
  clear ho1 hg1 hq1 hrb1 hra1 hset hb1 hc0
  go_wp2_with (at_builtin; go_must (refine wpList_push elemU rfl _ _ rfl B v n (ys.map uv) (uv patch) (w1.setCell ⟨b, 0, none⟩ (.slice A1 (n + 1) c1)) (w1.setCell ⟨b, 0, none⟩ (.slice A1 (n + 1) c1)) rfl HZS.out rfl rfl HS2.out.h1 (Below.refl _ _) (Nat.le_trans hB (by simpa using hz1)) (by omega) (by omega) ?_))
  intro v2 w2 ho2 hb2 hg2 hq2
  obtain ⟨A2, c2, hv2, _⟩ := own_shape ho2
  subst hv2
  have HT2 := Lib.hid (HS2.out.push ho2 hg2 hq2 (by simp)).turn
  have hrb2 := HRB2.out.below hb2 hbB
  have hra2 := HRA2.out.below hb2 haB
  have hcb2 : w2.cell? ⟨b, 1, none⟩ = some v := hrb2.cell 1
  have hfb2 := hrb2.free 1
  have hset2 := hrb2.set_ 1 (.slice A2 (n + 1) c2)
  rw [show [Value.slice A1 (n + 1) c1, v].set 1 (.slice A2 (n + 1) c2) = [Value.slice A1 (n + 1) c1, .slice A2 (n + 1) c2] from rfl] at hset2
  have hra3 := hra2.far (p := ⟨b, 1, none⟩) hab (.slice A2 (n + 1) c2)
  have hca : (w2.setCell ⟨b, 1, none⟩ (.slice A2 (n + 1) c2)).cell? ⟨a, 0, none⟩ = some (.int .i64 (A : Int)) := hra3.cell 0
  have hfa := hra3.free 0
  obtain ⟨C, hC⟩ : ∃ C, C = A + gap := ⟨_, rfl⟩
  have hCi : (A : Int) + (gap : Int) = (C : Int) := by omega
  have hCw : IntKind.i64.wrap (C : Int) = (C : Int) := by rw [IntKind.wrap_i64]; omega
  have hset3 := hra3.set_ 0 (.int .i64 (C : Int))
  rw [show [Value.int .i64 (A : Int)].set 0 (.int .i64 (C : Int)) = [.int .i64 (C : Int)] from rfl] at hset3
  have HRA3 := Lib.hid hset3
  have HRB3 := Lib.hid (hset2.far (p := ⟨a, 0, none⟩) (Ne.symm hab) (.int .i64 (C : Int)))
  have HT3 := Lib.hid ((HT2.out.past (grown_set w2 b 1 (.slice A2 (n + 1) c2)) hbB).past (grown_set (w2.setCell ⟨b, 1, none⟩ (.slice A2 (n + 1) c2)) a 0 (.int .i64 (C : Int))) haB)
  have HBF := Lib.hid ((((HBM.out.trans (hb2.mono (Nat.le_of_lt (Nat.lt_of_le_of_lt hmb hbB)))).setCell (p := ⟨b, 1, none⟩) hmb (.slice A2 (n + 1) c2))).setCell (p := ⟨a, 0, none⟩) hma (.int .i64 (C : Int)))
  have HC := Lib.hid hC
  clear ho2 hg2 hq2 hrb2 hra2 hset2 hra3 hset3 hb2 hC hcb hfb hc1
  go_wp2
  go_end0
  refine ⟨(.slice A1 (n + 1) c1), (.slice A2 (n + 1) c2), rfl, HRB3.out, by rw [← HC.out]; exact HRA3.out, ?_, HBF.out⟩
  rw [List.map_append, List.map_append]
  exact HT3.out
theorem ret_struct {P : Program} {f : Func} {p : Tmp} {t t' : TypeId} {K : Ending → World → Prop} {a : Act} {w : World} {g : Nat} {cs : List Value} {d : TypeDesc} (hf : f.results = #[.cell p t]) (hp : a.tmps.getD p undef = .pointer (some ⟨g, 0, none⟩)) (hr : Row w g t' cs)
    (hu : P.underlying t = some d) (hdd : (match d with | .struct _ | .array _ _ => true | _ => false) = true) (hi : (P.info? t).map (·.size) = some cs.length) (hd : a.defers = []) (hK : K (.returned (.agg cs.toArray)) w) : bodyPost P f K .ret a w :=
  bodyPost_ret (v := .agg cs.toArray) (results_cell_row hf a.tmps w g t' cs.toArray (0, 0) _ hp hr hu hdd (by rw [hi]; simp)) hd hK
def prow (us : List Nat) (w k : Nat) : List Nat := plow (us.take k) w ++ us.drop k
theorem prow_len (us : List Nat) (w k : Nat) : (prow us w k).length = us.length := by
  unfold prow plow
  rw [List.length_append, List.length_map, ← List.length_append, List.take_append_drop]
theorem prow_at {us : List Nat} {w k : Nat} (hk : k < us.length) : (prow us w k)[k]? = some us[k] := by
  unfold prow plow
  rw [List.getElem?_append_right (by rw [List.length_map, List.length_take]; omega), List.length_map, List.length_take, show k - min k us.length = 0 by omega, List.getElem?_drop, Nat.add_zero, List.getElem?_eq_getElem hk]
theorem prow_set {us : List Nat} {w k : Nat} (hk : k < us.length) : (prow us w k).set k (us[k] % 2 ^ w) = prow us w (k + 1) := by
  unfold prow plow
  have hl : ((us.take k).map (· % 2 ^ w)).length = k := by rw [List.length_map, List.length_take]; omega
  rw [List.set_append_right _ _ (by omega), hl, Nat.sub_self, List.drop_eq_getElem_cons hk, List.set_cons_zero, List.take_succ_eq_append_getElem hk, List.map_append, List.append_assoc]
  rfl
theorem prow_same {us : List Nat} {w k : Nat} (hk : k < us.length) (h : us[k] / 2 ^ w = 0) : prow us w (k + 1) = prow us w k := by
  rw [← prow_set hk]
  have h1 : us[k] % 2 ^ w = us[k] := by have := Nat.div_add_mod us[k] (2 ^ w); rw [h] at this; omega
  rw [h1]
  refine List.ext_getElem? fun i => ?_
  rw [List.getElem?_set]
  split
  · rename_i e
    subst e
    rw [prow_at hk, if_pos (by rw [prow_len]; exact hk)]
  · rfl
theorem prow_zero (us : List Nat) (w : Nat) : prow us w 0 = us := by simp [prow, plow]
theorem prow_all (us : List Nat) (w : Nat) : prow us w us.length = plow us w := by simp [prow]
/-- Where the next gap counts from: what stands in a box. -/
def boxNat (a : Nat) (W : World) : Nat := match W.cell? ⟨a, 0, none⟩ with | some v => (intOf v).toNat | none => 0
theorem boxNat_row {a A : Nat} {W : World} {t : TypeId} (h : Row W a t [.int .i64 (A : Int)]) : boxNat a W = A := by
  unfold boxNat
  have h1 : W.cell? ⟨a, 0, none⟩ = some (.int .i64 (A : Int)) := h.cell 0
  rw [h1]
  simp [intOf]
/-- What is known in a round: the numbers' row at g, what is answered at r, the pairs at r + 1, the last place at r + 2. -/
structure Cutting (row : List Nat) (ps : List (Nat × Nat)) (last g r : Nat) (w wr : World) : Prop where
  ex : ∃ u v, Row wr (r + 1) 209 [u, v] ∧ Two wr (r + 3) u v ps.length ps.length ((ps.map (·.1)).map uv) ((ps.map (·.2)).map uv)
  box : Row wr (r + 2) 3 [.int .i64 (last : Int)]
  res : Row wr r 209 [.slice none 0 0, .slice none 0 0]
  row : Row wr g 101 (row.map uv)
  size : r + 3 ≤ wr.heap.size
  below : Below g w wr
theorem Cutting.add {row : List Nat} {ps : List (Nat × Nat)} {last g r : Nat} {w wr : World} (h : Cutting row ps last g r w wr) (hgr : g < r) (gap patch : Nat) (hn : ps.length ≤ 1000000) (hA : last ≤ 1000000) (hgap : gap ≤ 1000000) :
    Calls Tryz.prog 208 #[.int .i64 (gap : Int), .int .u64 (patch : Int), .pointer (some ⟨r + 1, 0, none⟩), .pointer (some ⟨r + 2, 0, none⟩)] wr fun e w' => e = .returned (.tuple #[]) ∧ Cutting row (ps ++ [(gap, patch)]) (last + gap) g r w w' := by
  obtain ⟨u, v, hrb, h2⟩ := h.ex
  refine (add_any (r + 1) (r + 3) (r + 1) (r + 2) ps.length last gap patch u v _ _ wr hrb h.box (Nat.le_refl _) (by omega) (by omega) (by omega) (by omega) h.size h2 hn hA hgap).mono ?_
  rintro e w' ⟨u', v', rfl, h3, h4, h5, h6⟩
  refine ⟨rfl, ⟨u', v', h3, ?_⟩, h4, h.res.below h6 (by omega), h.row.below h6 (by omega), Nat.le_trans h.size h6.size, h.below.trans (h6.mono (by omega))⟩
  rw [List.length_append, List.length_singleton]
  have h7 := h5
  rw [show ps.map (·.1) ++ [gap] = (ps ++ [(gap, patch)]).map (·.1) by simp, show ps.map (·.2) ++ [patch] = (ps ++ [(gap, patch)]).map (·.2) by simp] at h7
  exact h7
theorem Cutting.set {row : List Nat} {ps : List (Nat × Nat)} {last g r : Nat} {w wr : World} (h : Cutting row ps last g r w wr) (hgr : g < r) (k T : Nat) : Cutting (row.set k T) ps last g r w (wr.setCell ⟨g, k, none⟩ (.int .u64 (T : Int))) := by
  obtain ⟨u, v, hrb, h2⟩ := h.ex
  refine ⟨⟨u, v, hrb.far (p := ⟨g, k, none⟩) (by dsimp only; omega) _, h2.past (grown_set _ _ _ _) (by omega)⟩, h.box.far (p := ⟨g, k, none⟩) (by dsimp only; omega) _, h.res.far (p := ⟨g, k, none⟩) (by dsimp only; omega) _, ?_, by simpa using h.size, h.below.setCell (p := ⟨g, k, none⟩) (Nat.le_refl _) _⟩
  have h3 := h.row.set_ k (uv T)
  rw [← List.map_set] at h3
  exact h3
def PCutRel (us : List Nat) (W0 g r : Nat) (w : World) (i : Value) (wr : World) : Prop :=
  ∃ k : Nat, k ≤ us.length ∧ i = .int .i64 (k : Int) ∧ Cutting (prow us W0 k) (pst W0 us k).1 (pst W0 us k).2 g r w wr
def CutIn (row : List Nat) (ps : List (Nat × Nat)) (l0 J g r : Nat) (w : World) (_i : Value) (wr : World) : Prop :=
  ∃ i : Nat, i ≤ J ∧ Cutting row (ps ++ List.replicate i (255, 0)) (l0 + 255 * i) g r w wr
def pairsV (u v : Value) : Value := .agg #[u, v]
def CutPost (us : List Nat) (W0 g : Nat) (w : World) (e : Ending) (w' : World) : Prop :=
  ∃ u v, e = .returned (pairsV u v) ∧ IsV uv ((ppairs W0 us).map (·.1)) u w' ∧ IsV uv ((ppairs W0 us).map (·.2)) v w' ∧ Row w' g 101 ((plow us W0).map uv) ∧ Below g w w'
theorem pairs_size : (Tryz.prog.info? 209).map (·.size) = some 2 := by kernel_rfl
set_option maxHeartbeats 4000000 in
set_option maxRecDepth 100000 in
theorem cut_any (us : List Nat) (W0 g n : Nat) (w : World) (hr : Row w g 101 (us.map uv)) (hn : us.length = n) (h64 : ∀ u ∈ us, u < 2 ^ 64) (hb : n ≤ 10000) (hw : W0 ≤ 64) :
    Calls Tryz.prog 189 #[.slice (some ⟨g, 0, none⟩) n n, .int .i64 (W0 : Int)] w (CutPost us W0 g w) := by
  have hgr := hr.lt
  obtain ⟨r, hrz⟩ : ∃ r, r = w.heap.size := ⟨_, rfl⟩
  rw [← hrz] at hgr
  have HN := Lib.hid hn
  have H64 := Lib.hid h64
  obtain ⟨w1, hw1⟩ : ∃ w1, w1 = w.alloc (.cells #[.slice none 0 0, .slice none 0 0] 209) := ⟨_, rfl⟩
  have z1 : w1.heap.size = r + 1 := by rw [hw1, hrz]; simp
  obtain ⟨w2, hw2⟩ : ∃ w2, w2 = w1.alloc (.cells #[.slice none 0 0, .slice none 0 0] 209) := ⟨_, rfl⟩
  have z2 : w2.heap.size = r + 2 := by rw [hw2]; simp [z1]
  obtain ⟨w3, hw3⟩ : ∃ w3, w3 = w2.alloc (.cells #[.int .i64 0] 3) := ⟨_, rfl⟩
  have z3 : w3.heap.size = r + 3 := by rw [hw3]; simp [z2]
  have b1 : Below g w w1 := by rw [hw1]; exact (Below.refl _ _).alloc (by omega) _
  have b2 : Below g w w2 := by rw [hw2]; exact b1.alloc (by omega) _
  have b3 : Below g w w3 := by rw [hw3]; exact b2.alloc (by omega) _
  have q1 : Row w1 r 209 [.slice none 0 0, .slice none 0 0] := by rw [hw1, hrz]; exact heap_alloc_new w _
  have q2 : Row w2 (r + 1) 209 [.slice none 0 0, .slice none 0 0] := by rw [hw2, ← z1]; exact heap_alloc_new w1 _
  have q3 : Row w3 (r + 2) 3 [.int .i64 0] := by rw [hw3, ← z2]; exact heap_alloc_new w2 _
  have HC := Lib.hid (show Cutting us [] 0 g r w w3 from by
    refine ⟨⟨.slice none 0 0, .slice none 0 0, ?_, Two.nil _ _⟩, q3, ?_, ?_, by omega, b3⟩
    · rw [hw3]; exact q2.alloc _
    · rw [hw3, hw2]; exact (q1.alloc _).alloc _
    · rw [hw3, hw2, hw1]; exact ((hr.alloc _).alloc _).alloc _)
  have HS := Lib.hid (show PCutRel us W0 g r w (.int .i64 0) w3 from ⟨0, Nat.zero_le _, rfl, by rw [prow_zero]; exact HC.out⟩)
  clear HC q1 q2 q3 b1 b2 b3 hr hn h64
  go_enter Tryz.func189, Tryz.ntmps189
  go_wp2
  rw [← hrz, ← hw1, ← hw2, ← hw3, show r + 1 + 1 = r + 2 from rfl]
  have HZ := Lib.hid hrz
  clear hw1 hw2 hw3 z1 z2 z3 hrz
  go_loopw [14] (PCutRel us W0 g r w) (fun i _ => n - (intOf i).toNat)
  case atStart => exact HS.out
  case round =>
    obtain ⟨k, hk, rfl, hC⟩ := hrel
    have HC := Lib.hid hC
    have hkn : k ≤ n := by have := HN.out; omega
    by_cases hlt : k < n
    · have hkl : k < us.length := by have := HN.out; omega
      have hlti : (k : Int) < (n : Int) := by omega
      obtain ⟨u, hu⟩ : ∃ u, u = us[k] := ⟨_, rfl⟩
      have hcu : wr.cell? ⟨g, k, none⟩ = some (.int .u64 (u : Int)) := by rw [hC.row.cell, List.getElem?_map, prow_at hkl, ← hu]; rfl
      have hgd : us.getD k 0 = u := by rw [List.getD_eq_getElem?_getD, List.getElem?_eq_getElem hkl, hu]; rfl
      have hu64 : u < 18446744073709551616 := by rw [hu]; exact H64.out _ (List.getElem_mem hkl)
      obtain ⟨q, hq⟩ : ∃ q, q = u / 2 ^ W0 := ⟨_, rfl⟩
      have hsh : (u : Int) / 2 ^ W0 = (q : Int) := by rw [hq]; simp
      have hlast := pst_last W0 us k
      have hpl := pst_len W0 us k
      have HNX := Lib.hid (prow_set (w := W0) hkl)
      rw [← hu] at HNX
      obtain ⟨last, hla⟩ : ∃ last, last = (pst W0 us k).2 := ⟨_, rfl⟩
      obtain ⟨ps, hps⟩ : ∃ ps, ps = (pst W0 us k).1 := ⟨_, rfl⟩
      rw [← hla] at hlast hpl HC
      rw [← hps] at HC hpl
      have hplb : ps.length ≤ 20000 := by omega
      have hca : wr.cell? ⟨r + 2, 0, none⟩ = some (.int .i64 (last : Int)) := HC.out.box.cell 0
      have HLA := Lib.hid hla
      have HPS := Lib.hid hps
      have HGD := Lib.hid hgd
      have HQ := Lib.hid hq
      have HU := Lib.hid hu
      clear hu hgd hq hla hps hpl hC HS
      by_cases hq0 : q = 0
      · have HSK : Hid (pst W0 us (k + 1) = pst W0 us k) := Lib.hid (pst_skip (by rw [HGD.out, ← HQ.out, hq0]))
        have HSR : Hid (prow us W0 (k + 1) = prow us W0 k) := Lib.hid (prow_same hkl (by rw [← HU.out, ← HQ.out, hq0]))
        have hsz : (u : Int) / 2 ^ W0 = 0 := by rw [hsh, hq0]; rfl
        clear hsh hq0
        go_wp2
        go_roundw
        case rel => exact ⟨k + 1, hkl, by go_num, by rw [HSK.out, HSR.out, ← HLA.out, ← HPS.out]; exact HC.out⟩
        case measure => simp [intOf]; omega
      · obtain ⟨j, hj⟩ : ∃ j, j = (k - last - 1) / 255 := ⟨_, rfl⟩
        have HMO : Hid (pst W0 us (k + 1) = (ps ++ (List.replicate j (255, 0) ++ [(k - last - 255 * j, q)]), k)) := Lib.hid (by rw [pst_more (by rw [HGD.out, ← HQ.out]; exact hq0), ← HLA.out, ← HPS.out, ← hj, HGD.out, ← HQ.out])
        have hq1 : ((q : Int) == 0) = false := by rw [beq_eq_false_iff_ne]; omega
        obtain ⟨row, hrow⟩ : ∃ row, row = prow us W0 k := ⟨_, rfl⟩
        have HRK := Lib.hid (show row[k]? = some u by rw [hrow, prow_at hkl, HU.out])
        rw [← hrow] at HC HNX
        have HST := Lib.hid (show CutIn row ps last j g r w undef wr from ⟨0, Nat.zero_le _, by simpa using HC.out⟩)
        have HJ := Lib.hid hj
        have hjb : j ≤ 10000 := by omega
        clear hj hq0 hrow
        go_wp2
        clear hcu hca
        go_loopw [24] (CutIn row ps last j g r w) (fun _ W => k - boxNat (r + 2) W)
        case atStart => exact HST.out
        case round =>
          obtain ⟨i, hi, hC⟩ := hrel
          have HC2 := Lib.hid hC
          obtain ⟨L, hL⟩ : ∃ L, L = last + 255 * i := ⟨_, rfl⟩
          rw [← hL] at HC2
          have hca : wr.cell? ⟨r + 2, 0, none⟩ = some (.int .i64 (L : Int)) := HC2.out.box.cell 0
          have HBX := Lib.hid (boxNat_row HC2.out.box)
          obtain ⟨d, hd⟩ : ∃ d, d = k - L := ⟨_, rfl⟩
          have hLk : L ≤ k := by have := HJ.out; omega
          have hdi : (k : Int) - (L : Int) = (d : Int) := by omega
          have hdw : IntKind.i64.wrap (d : Int) = (d : Int) := by rw [IntKind.wrap_i64]; omega
          have hlen : (ps ++ List.replicate i (255, 0)).length ≤ 1000000 := by rw [List.length_append, List.length_replicate]; omega
          have HL := Lib.hid hL
          have HD := Lib.hid hd
          clear hL hd hC HST
          by_cases hij : i < j
          · have hd5 : (255 : Int) < (d : Int) := by have := HJ.out; have := HL.out; have := HD.out; omega
            have HA := Lib.hid (HC2.out.add hgr 255 0 hlen (by omega) (by omega))
            clear hlen
            go_wp2_with (go_at_call 208; refine HA.out.mono ?_; rintro e w4 ⟨rfl, hC4⟩)
            have HC4 := Lib.hid hC4
            clear hC4
            go_roundw
            case rel => exact ⟨i + 1, hij, by rw [List.replicate_succ', ← List.append_assoc, show last + 255 * (i + 1) = L + 255 by have := HL.out; omega]; exact HC4.out⟩
            case measure => rw [boxNat_row HC4.out.box, HBX.out]; omega
          · obtain rfl : i = j := by omega
            have hd5 : ¬ (255 : Int) < (d : Int) := by have := HJ.out; have := HL.out; have := HD.out; omega
            have HA := Lib.hid (HC2.out.add hgr d q hlen (by omega) (by omega))
            have HLD : Hid (L + d = k ∧ d = k - last - 255 * i) := Lib.hid (by have := HL.out; have := HD.out; omega)
            clear hlen
            go_wp2_with (go_at_call 208; refine HA.out.mono ?_; rintro e w4 ⟨rfl, hC4⟩)
            have HC4 := Lib.hid hC4
            rw [List.append_assoc, HLD.out.1, HLD.out.2] at HC4
            clear hC4
            obtain ⟨T, hT⟩ : ∃ T, T = u % 2 ^ W0 := ⟨_, rfl⟩
            rw [← hT] at HNX
            obtain ⟨M, hM⟩ : ∃ M, M = 2 ^ W0 - 1 := ⟨_, rfl⟩
            have hMb : M < 18446744073709551616 := by
              have h1 : 2 ^ W0 ≤ 2 ^ 64 := Nat.pow_le_pow_right (by omega) hw
              have h2 := Nat.two_pow_pos W0
              omega
            have hand : bits .and .u64 (u : Int) (M : Int) = (T : Int) := by rw [u64_and_nat _ _ hu64 hMb, hM, Nat.and_two_pow_sub_one_eq_mod, hT]
            have HLW := Lib.hid (fun W => plow_any W0 M W hw hM)
            have hcu : w4.cell? ⟨g, k, none⟩ = some (.int .u64 (u : Int)) := by rw [HC4.out.row.cell, List.getElem?_map, HRK.out]; rfl
            have hfu := HC4.out.row.free k
            have HC5 := Lib.hid (HC4.out.set hgr k T)
            rw [HNX.out] at HC5
            have HREL := Lib.hid (show PCutRel us W0 g r w (.int .i64 ((k : Int) + 1)) (w4.setCell ⟨g, k, none⟩ (.int .u64 (T : Int))) from ⟨k + 1, hkl, by go_num, by rw [HMO.out]; exact HC5.out⟩)
            clear hT hM hMb
            go_wp2_with (go_at_call 197; refine (HLW.out _).mono ?_; rintro e w5 ⟨rfl, rfl⟩)
            go_roundw
            case rel => exact HREL.out
            case measure => simp [intOf]; omega
    · obtain rfl : k = n := by omega
      have hlti : ¬ (k : Int) < (k : Int) := by omega
      have HE : Hid ((pst W0 us k).1 = ppairs W0 us ∧ prow us W0 k = plow us W0) := Lib.hid ⟨by unfold ppairs; rw [HN.out], by rw [← HN.out]; exact prow_all _ _⟩
      rw [HE.out.1, HE.out.2] at HC
      obtain ⟨u, v, hrb, h2⟩ := HC.out.ex
      have hc0 : wr.cell? ⟨r + 1, 0, none⟩ = some u := hrb.cell 0
      have hc1 : wr.cell? ⟨r + 1, 1, none⟩ = some v := hrb.cell 1
      have H2 := Lib.hid h2
      obtain ⟨A1, c1, hu, _⟩ := own_shape h2.h1
      obtain ⟨A2, c2, hv, _⟩ := own_shape h2.h2
      generalize hm : (ppairs W0 us).length = m at hu hv H2
      subst hu hv
      clear hC hrb h2 hm
      have hr0 : wr.cell? ⟨r, 0, none⟩ = some (.slice none 0 0) := HC.out.res.cell 0
      have hf0 := HC.out.res.free 0
      have hs1 := HC.out.res.set_ 0 (.slice A1 m c1)
      have hr1 : (wr.setCell ⟨r, 0, none⟩ (.slice A1 m c1)).cell? ⟨r, 1, none⟩ = some (.slice none 0 0) := hs1.cell 1
      have hf1 := hs1.free 1
      have hs2 := hs1.set_ 1 (.slice A2 m c2)
      rw [show (([Value.slice none 0 0, .slice none 0 0].set 0 (.slice A1 m c1)).set 1 (.slice A2 m c2)) = [.slice A1 m c1, .slice A2 m c2] from rfl] at hs2
      obtain ⟨W, hW⟩ : ∃ W, W = (wr.setCell ⟨r, 0, none⟩ (.slice A1 m c1)).setCell ⟨r, 1, none⟩ (.slice A2 m c2) := ⟨_, rfl⟩
      rw [← hW] at hs2
      have HS2 := Lib.hid hs2
      have h3 : Two W (r + 3) (.slice A1 m c1) (.slice A2 m c2) m m (((ppairs W0 us).map (·.1)).map uv) (((ppairs W0 us).map (·.2)).map uv) := by rw [hW]; exact (H2.out.past (grown_set _ r 0 _) (by omega)).past (grown_set _ r 1 _) (by omega)
      have HU := Lib.hid (isV_own h3.h1)
      have HV := Lib.hid (isV_own h3.h2)
      have HG := Lib.hid (show Row W g 101 ((plow us W0).map uv) by rw [hW]; exact (HC.out.row.far (p := ⟨r, 0, none⟩) (by dsimp only; omega) _).far (p := ⟨r, 1, none⟩) (by dsimp only; omega) _)
      have HBW := Lib.hid (show Below g w W by rw [hW]; exact (HC.out.below.setCell (p := ⟨r, 0, none⟩) (Nat.le_of_lt hgr) _).setCell (p := ⟨r, 1, none⟩) (Nat.le_of_lt hgr) _)
      have HW := Lib.hid hW
      clear hs1 hs2 h3 hW
      go_wp2
      rw [← HW.out]
      refine ret_struct rfl rfl HS2.out Tryz.underlying209 rfl pairs_size rfl ?_
      exact ⟨_, _, rfl, HU.out, HV.out, HG.out, HBW.out⟩
end Go.Proofs.YtblpkmmhmdpkjaaGreatDoor

/- patched's own contracts: patcher with its closure, and patch. Written by gen_play.py. -/





namespace Go.Proofs.YtblpkmmhmdpkjaaGreatDoor

open Go.RowKit

/-- The boxes of the closure, and the numbers that it lays patches upon. -/
structure Laying (w00 : World) (g m base W : Nat) (lv : Value) (pb sb wb xb : Nat) (cs : List Value) (A : Nat) (low : List Nat) (w : World) : Prop where
  shp : Row w xb 181 cs
  pos : Row w pb 3 [.int .i64 (A : Int)]
  siz : Row w sb 75 [lv]
  wid : Row w wb 3 [.int .i64 (W : Int)]
  own : w.ownsRow base 101 1 lv m (low.map uv)
  grown : w00.grownBy w (some g)
theorem shape_at0 (W : World) (g : Nat) : (Instr.fieldAt 181 (.pointer (some ⟨g, 0, none⟩)) 0).run Tryz.prog W = .ok (.pointer (some ⟨g, 0, none⟩)) W := by
  simp [Instr.fieldAt, run_underlying Tryz.underlying181, Instr.sureAddr, fieldPlace, Addr.add]
theorem shape_at1 (W : World) (g : Nat) : (Instr.fieldAt 181 (.pointer (some ⟨g, 0, none⟩)) 1).run Tryz.prog W = .ok (.pointer (some ⟨g, 1, none⟩)) W := by
  simp [Instr.fieldAt, run_underlying Tryz.underlying181, Instr.sureAddr, fieldPlace, Addr.add]
theorem shape_at2 (W : World) (g : Nat) : (Instr.fieldAt 181 (.pointer (some ⟨g, 0, none⟩)) 2).run Tryz.prog W = .ok (.pointer (some ⟨g, 2, none⟩)) W := by
  simp [Instr.fieldAt, run_underlying Tryz.underlying181, Instr.sureAddr, fieldPlace, Addr.add]
theorem shape_at3 (W : World) (g : Nat) : (Instr.fieldAt 181 (.pointer (some ⟨g, 0, none⟩)) 3).run Tryz.prog W = .ok (.pointer (some ⟨g, 3, none⟩)) W := by
  simp [Instr.fieldAt, run_underlying Tryz.underlying181, Instr.sureAddr, fieldPlace, Addr.add]
theorem shape_at4 (W : World) (g : Nat) : (Instr.fieldAt 181 (.pointer (some ⟨g, 0, none⟩)) 4).run Tryz.prog W = .ok (.pointer (some ⟨g, 4, none⟩)) W := by
  simp [Instr.fieldAt, run_underlying Tryz.underlying181, Instr.sureAddr, fieldPlace, Addr.add]
theorem shape_at5 (W : World) (g : Nat) : (Instr.fieldAt 181 (.pointer (some ⟨g, 0, none⟩)) 5).run Tryz.prog W = .ok (.pointer (some ⟨g, 5, none⟩)) W := by
  simp [Instr.fieldAt, run_underlying Tryz.underlying181, Instr.sureAddr, fieldPlace, Addr.add]
theorem Laying.below {w00 w w' : World} {g m base W : Nat} {lv : Value} {pb sb wb xb : Nat} {cs : List Value} {A : Nat} {low : List Nat} (h : Laying w00 g m base W lv pb sb wb xb cs A low w) (hb : Below w.heap.size w w') : Laying w00 g m base W lv pb sb wb xb cs A low w' :=
  ⟨h.shp.below hb h.shp.lt, h.pos.below hb h.pos.lt, h.siz.below hb h.siz.lt, h.wid.below hb h.wid.lt, own_below h.own hb, grown_trans h.grown (grown_below hb)⟩
end Go.Proofs.YtblpkmmhmdpkjaaGreatDoor

/- slices.Concat and slices.Grow at bytes. -/







namespace Go.Proofs.YtblpkmmhmdpkjaaGreatDoor

open Go.RowKit

theorem own_zero {w : World} {base g G : Nat} {e : TypeId} {cur : Array Value} (hg : w.heap[g]? = some (.cells cur e (0, 0))) (hb : base ≤ g) (hG : G ≤ maxLen) (hs : cur.size = G) : w.ownsRow base e 1 (.slice (some ⟨g, 0, none⟩) 0 G) 0 [] :=
  ⟨rfl, .inr ⟨g, G, cur, rfl, hb, hg, Nat.zero_le _, hG, by rw [hs, Nat.mul_one], by simp⟩⟩
theorem zeroCells_size (z : Value) (n : Nat) : (Builtin.zeroCells #[z] n).size = n := by simp [Builtin.zeroCells]
set_option maxHeartbeats 2000000 in
set_option maxRecDepth 100000 in
theorem grow_own (n : Nat) (w : World) (hn : n ≤ 1000000) : Calls Tryz.prog 209 #[.slice none 0 0, .int .i64 (n : Int)] w fun e w' => ∃ v, e = .returned v ∧ w'.ownsRow w.heap.size 5 1 v 0 [] ∧ Below w.heap.size w w' := by
  have hnw : IntKind.i64.wrap (n : Int) = (n : Int) := by rw [IntKind.wrap_i64]; omega
  by_cases h0 : n = 0
  · subst h0
    go_enter Tryz.func209, Tryz.ntmps209
    go_wp2
    go_ret
    exact ⟨_, rfl, World.ownsRow_nil _ _ _ _, Below.refl _ _⟩
  · obtain ⟨i, hi, hz, hs, hby⟩ := elemB.info
    have hrz : ∀ ty, (Builtin.append_ #[38, 3] ty #[.slice none 0 0, .int .i64 (n : Int)]).run Tryz.prog w = .ok (.slice (some ⟨w.heap.size, 0, none⟩) n (grownCap w n 0 5)) (w.drew.alloc (.cells (Builtin.zeroCells (bv 0).cells n ++ Builtin.zeroCells (bv 0).cells (grownCap w n 0 5 - n)) 5)) := fun ty =>
      Lib.run_append_nil_zeros w 38 3 ty 5 i (bv 0) .i64 .i64 Tryz.underlying38 Tryz.underlying3 hi hz n (by omega) (by omega) (by omega) (by rw [hby]; omega)
    have hGn : n ≤ grownCap w n 0 5 := grownCap_ge w _ _ _
    have hGm := grownCap_le_maxLen w n 0 5 (by unfold maxLen; omega)
    obtain ⟨G, hG⟩ : ∃ G, G = grownCap w n 0 5 := ⟨_, rfl⟩
    rw [← hG] at hrz hGn hGm
    have hG63 : G ≤ 9223372036854775807 := by unfold maxLen at hGm; omega
    obtain ⟨cur, hcur⟩ : ∃ cur, cur = Builtin.zeroCells (bv 0).cells n ++ Builtin.zeroCells (bv 0).cells (G - n) := ⟨_, rfl⟩
    rw [← hcur] at hrz
    have HCS := Lib.hid (show cur.size = G by
      rw [hcur, Array.size_append]
      have h1 := zeroCells_size (.int .u8 0) n
      have h2 := zeroCells_size (.int .u8 0) (G - n)
      show (Builtin.zeroCells #[.int .u8 0] n).size + (Builtin.zeroCells #[.int .u8 0] (G - n)).size = G
      omega)
    have HGM := Lib.hid hGm
    have hn1 : 0 < (n : Int) := by omega
    clear hcur hGm hi hz hs hby hG h0
    go_enter Tryz.func209, Tryz.ntmps209
    go_wp2_with (at_builtin; refine Lib.wpList_append_run _ rfl _ _ _ _ rfl _ _ rfl rfl _ _ (hrz _) ?_)
    all_goals
      go_ret
      have h1 : w.drew.heap.size = w.heap.size := rfl
      refine ⟨_, rfl, own_zero (by rw [← h1]; exact heap_alloc_new w.drew _) (Nat.le_refl _) HGM.out HCS.out, ((Below.refl _ _).alloc (Nat.le_refl _) _).trans ⟨rfl, rfl, rfl, Nat.le_refl _, fun _ _ => rfl⟩⟩
def CatRel1 (xs : List (Value × List UInt8)) (w : World) (s i : Value) (wr : World) : Prop := ∃ k S : Nat, k ≤ xs.length ∧ i = .int .i64 (k : Int) ∧ s = .int .i64 (S : Int) ∧ S = ((xs.take k).flatMap (·.2)).length ∧ w = wr
def CatRel2 (xs : List (Value × List UInt8)) (w : World) (v i : Value) (wr : World) : Prop := ∃ (k : Nat) (l : List UInt8), k ≤ xs.length ∧ i = .int .i64 (k : Int) ∧ l = (xs.take k).flatMap (·.2) ∧ wr.ownsRow w.heap.size 5 1 v l.length (l.map bv) ∧ Below w.heap.size w wr
theorem flat_le {xs : List (Value × List UInt8)} (k : Nat) : ((xs.take k).flatMap (·.2)).length ≤ (xs.flatMap (·.2)).length := by
  have h : xs.flatMap (·.2) = (xs.take k).flatMap (·.2) ++ (xs.drop k).flatMap (·.2) := by rw [← List.flatMap_append, List.take_append_drop]
  rw [h, List.length_append]
  omega
set_option maxHeartbeats 2000000 in
set_option maxRecDepth 100000 in
theorem concat_own (xs : List (Value × List UInt8)) (v : Value) (w : World) (hv : IsV (·.1) xs v w) (hx : ∀ x ∈ xs, IsB x.2 x.1 w) (hm : xs.length ≤ 1000) (hb : (xs.flatMap (·.2)).length ≤ 1000000) :
    Calls Tryz.prog 193 #[v] w (RetOwn w (xs.flatMap (·.2))) := by
  obtain ⟨A, n, c, rfl⟩ := hv.shape
  have HN := Lib.hid hv.parts.1
  have HV := Lib.hid hv
  have HX := Lib.hid hx
  have HB := Lib.hid hb
  have hn6 : n ≤ 1000 := by have := HN.out; omega
  have HS := Lib.hid (show CatRel1 xs w (.int .i64 0) (.int .i64 0) w from ⟨0, 0, Nat.zero_le _, rfl, rfl, rfl, rfl⟩)
  clear hv hx hm hb
  go_enter Tryz.func193, Tryz.ntmps193
  go_wp2
  go_loopw [3, 11] (CatRel1 xs w) (fun _ i _ => n - (intOf i).toNat)
  case atStart => exact HS.out
  case round =>
    obtain ⟨k, S, hk, rfl, rfl, hS, rfl⟩ := hrel
    have hkn : k ≤ n := by have := HN.out; omega
    have HSE := Lib.hid hS
    have hS6 : S ≤ 1000000 := by rw [hS]; exact Nat.le_trans (flat_le k) HB.out
    clear hS hk
    by_cases hlt : k < n
    · have hkl : k < xs.length := by have := HN.out; omega
      have hlti : (k : Int) < (n : Int) := by omega
      obtain ⟨ad, rfl, had, hcell⟩ := HV.out.at hkl
      obtain ⟨x, hxe⟩ : ∃ x, x = xs[k] := ⟨_, rfl⟩
      rw [← hxe] at hcell
      have hxb := HX.out x (by rw [hxe]; exact List.getElem_mem hkl)
      have HNX := Lib.hid (show S + x.2.length = ((xs.take (k + 1)).flatMap (·.2)).length by rw [List.take_succ_eq_append_getElem hkl, List.flatMap_append, List.length_append, ← HSE.out, ← hxe]; simp)
      have hS2 : S + x.2.length ≤ 1000000 := by rw [HNX.out]; exact Nat.le_trans (flat_le (k + 1)) HB.out
      obtain ⟨A1, c1, hx1, _⟩ := hxb
      rw [hx1] at hcell
      obtain ⟨q, hq⟩ : ∃ q, q = x.2.length := ⟨_, rfl⟩
      rw [← hq] at hcell HNX hS2
      have hsw : IntKind.i64.wrap ((S : Int) + (q : Int)) = (S : Int) + (q : Int) := by rw [IntKind.wrap_i64]; omega
      have hneg : ¬ ((S : Int) + (q : Int) < 0) := by omega
      clear hxe hx1 hq
      go_wp2
      go_roundw
      case rel => exact ⟨k + 1, S + q, hkl, by go_num, by go_num, HNX.out, rfl⟩
      case measure => simp [intOf]; omega
    · obtain rfl : k = n := by omega
      have HGR := Lib.hid (grow_own S w hS6)
      clear HSE
      go_wp2_with (go_at_call 209; refine HGR.out.mono ?_; rintro e w1 ⟨v1, rfl, ho1, hb1⟩)
      have HS2 := Lib.hid (show CatRel2 xs w v1 (.int .i64 0) w1 from ⟨0, [], Nat.zero_le _, rfl, rfl, ho1, hb1⟩)
      clear ho1 hb1
      go_loopw [6, 27] (CatRel2 xs w) (fun _ i _ => k - (intOf i).toNat)
      case atStart => exact HS2.out
      case round =>
        obtain ⟨j, l, hj, rfl, hl, hown, hbw⟩ := hrel
        have hjn : j ≤ k := by have := HN.out; omega
        have HL := Lib.hid hl
        have hl6 : l.length ≤ 1000000 := by rw [hl]; exact Nat.le_trans (flat_le j) HB.out
        have hz := hbw.size
        clear hl hj
        by_cases hlt2 : j < k
        · have hkl : j < xs.length := by have := HN.out; omega
          have hlti : (j : Int) < (k : Int) := by omega
          obtain ⟨ad, rfl, had, hcell⟩ := (HV.out.below hbw).at hkl
          obtain ⟨x, hxe⟩ : ∃ x, x = xs[j] := ⟨_, rfl⟩
          rw [← hxe] at hcell
          have hxb := HX.out x (by rw [hxe]; exact List.getElem_mem hkl)
          have HNX := Lib.hid (show l ++ x.2 = (xs.take (j + 1)).flatMap (·.2) by rw [List.take_succ_eq_append_getElem hkl, List.flatMap_append, ← HL.out, ← hxe]; simp)
          have hS2 : (l ++ x.2).length ≤ 1000000 := by rw [HNX.out]; exact Nat.le_trans (flat_le (j + 1)) HB.out
          rw [List.length_append] at hS2
          obtain ⟨A1, c1, hx1, hA1, hnc1, hcm1, hl1⟩ := hxb
          rw [hx1] at hcell
          obtain ⟨q, hq⟩ : ∃ q, q = x.2.length := ⟨_, rfl⟩
          rw [← hq] at hcell hA1 hnc1 hS2
          have HL1 := Lib.hid (hl1.below hbw)
          have HQ := Lib.hid hq
          obtain ⟨m, hm⟩ : ∃ m, m = l.length := ⟨_, rfl⟩
          rw [← hm] at hown hS2 hl6
          have HM := Lib.hid hm
          clear hxe hx1 hq hm hl1
          go_wp2_with (at_builtin; refine wpList_join elemB rfl _ _ rfl w.heap.size _ m (l.map bv) A1 q c1 (x.2.map bv) w rfl rfl hA1 (by rw [List.length_map, HQ.out]) HL1.out (bv_one _) hown hbw hz (by omega) (by omega) ?_)
          intro v5 w5 ho5 hb5 _ _
          have HO5 := Lib.hid (show w5.ownsRow w.heap.size 5 1 v5 (l ++ x.2).length ((l ++ x.2).map bv) by rw [List.length_append, ← HM.out, ← HQ.out, List.map_append]; exact ho5)
          have HB5 := Lib.hid hb5
          clear ho5 hb5 hown hbw
          go_wp2
          go_roundw
          case rel => exact ⟨j + 1, _, hkl, by go_num, HNX.out, HO5.out, HB5.out⟩
          case measure => simp [intOf]; omega
        · obtain rfl : j = k := by omega
          have HE := Lib.hid (show l = xs.flatMap (·.2) by rw [HL.out, List.take_of_length_le (by have := HN.out; omega)])
          have HO := Lib.hid hown
          clear hown
          go_wp2
          go_ret
          rw [← HE.out]
          exact ⟨_, rfl, HO.out, hbw⟩
end Go.Proofs.YtblpkmmhmdpkjaaGreatDoor

/- Operations of a region that draws: max, a struct's literal, a slice literal of two bytes, shifts by a constant; a struct's result beside two others. -/









namespace Go.Proofs.YtblpkmmhmdpkjaaGreatDoor

open Go.RowKit

section

variable {P : Program} {o : Oper} {ρ : Operand → Value} {w : World} {R : Value → World → Prop}
theorem gives_max {ts : Array TypeId} {x y : Operand} {a b r : Int} (ho : o.op = .call { callee := .builtin .max, args := #[x, y], argTypes := ts }) (hx : ρ x = .int .i64 a) (hy : ρ y = .int .i64 b) (h : max a b = r) (hR : R (.int .i64 r) w) : Gives P o ρ w R := by
  refine gives_of (v := .int .i64 r) (w' := w) ?_ hR
  have hm : ∀ (ts : Array TypeId) (t : TypeId) (W : World), (Builtin.max_ ts t #[.int .i64 a, .int .i64 b]).run P W = .ok (.int .i64 r) W := fun ts t W => by
    rw [run_max_int2]
    congr 2
    rw [← h]
    split <;> omega
  unfold execOp
  simp only [ho, resolve, invoke, builtin, Sem.run_bind, Sem.run_pure, Result.andThen_ok, List.map_toArray, List.map_cons, List.map_nil, hx, hy, hm]
theorem gives_shl5 {t t' : TypeId} {x y : Operand} {a r : Int} (ho : o.op = .binOp .shl t x y t') (hx : ρ x = .int .i64 a) (hy : ρ y = .int .u64 5) (h : IntKind.i64.wrap (a * 32) = r) (hR : R (.int .i64 r) w) : Gives P o ρ w R := by
  refine gives_of (v := .int .i64 r) (w' := w) ?_ hR
  simp [execOp, ho, hx, hy, go_sem, h]
theorem gives_orI {t t' : TypeId} {x y : Operand} {a b r : Int} (ho : o.op = .binOp .or t x y t') (hx : ρ x = .int .i64 a) (hy : ρ y = .int .i64 b) (h : bits .or .i64 a b = r) (hR : R (.int .i64 r) w) : Gives P o ρ w R := by
  refine gives_of (v := .int .i64 r) (w' := w) ?_ hR
  simp [execOp, ho, hx, hy, go_sem, h]
theorem gives_or64 {t t' : TypeId} {x y : Operand} {a b r : Int} (ho : o.op = .binOp .or t x y t') (hx : ρ x = .int .u64 a) (hy : ρ y = .int .u64 b) (h : bits .or .u64 a b = r) (hR : R (.int .u64 r) w) : Gives P o ρ w R := by
  refine gives_of (v := .int .u64 r) (w' := w) ?_ hR
  simp [execOp, ho, hx, hy, go_sem, h]
/-- A slice literal of two bytes. -/
theorem gives_two {t e : TypeId} {bytes : Nat} {z u u' : Value} (E : Elem P t e bytes z) {x y : Operand} (ho : o.op = .buildSlice t 2 #[(0, x), (1, y)]) (hx : ρ x = u) (hy : ρ y = u') (hu : u.cells = #[u]) (hu' : u'.cells = #[u']) (hR : R (.slice (some ⟨w.heap.size, 0, none⟩) 2 2) (w.alloc (.cells #[u, u'] e))) : Gives P o ρ w R := by
  obtain ⟨i, h1, h2, h3, h4⟩ := E.info
  refine gives_of (v := .slice (some ⟨w.heap.size, 0, none⟩) 2 2) (w' := w.alloc (.cells #[u, u'] e)) ?_ hR
  have h5 : z.cells = #[z] := E.one
  have hf : Instr.fill (fun k => some (k * i.size, i.size)) ((Array.range (2 * i.size)).map (z.cells[· % z.cells.size]!)) [(0, u), (1, u')] = some #[u, u'] := by
    rw [h3, h5]
    have hr1 : Array.range 2 = #[0, 1] := by rw [Array.range_succ, Array.range_succ]; rfl
    rw [Nat.mul_one, hr1]
    simp [Instr.fill, hu, hu']
  have := run_buildSlice w t e 2 #[(0, u), (1, u')] #[u, u'] i z E.under h1 h2 (by rw [h3]; decide) (by rw [h3]; decide) hf
  simp [execOp, ho, hx, hy, this]
end
theorem gives_shape {o : Oper} {ρ : Operand → Value} {w : World} {R : Value → World → Prop} {x0 x1 x2 x3 x4 x5 : Operand} {m W n p g t : Int} (ho : o.op = .build 181 #[(0, x0), (1, x1), (2, x2), (3, x3), (4, x4), (5, x5)])
    (h0 : ρ x0 = .int .i64 m) (h1 : ρ x1 = .int .i64 W) (h2 : ρ x2 = .int .i64 n) (h3 : ρ x3 = .int .i64 p) (h4 : ρ x4 = .int .i64 g) (h5 : ρ x5 = .int .i64 t) (hR : R (shv m W n p g t) w) : Gives Tryz.prog o ρ w R := by
  refine gives_of (v := shv m W n p g t) (w' := w) ?_ hR
  simp [execOp, ho, h0, h1, h2, h3, h4, h5, go_sem]
  rfl
theorem pairs_at0 (W : World) (g : Nat) : (Instr.fieldAt 209 (.pointer (some ⟨g, 0, none⟩)) 0).run Tryz.prog W = .ok (.pointer (some ⟨g, 0, none⟩)) W := by
  simp [Instr.fieldAt, run_underlying Tryz.underlying209, Instr.sureAddr, fieldPlace, Addr.add]
theorem pairs_at1 (W : World) (g : Nat) : (Instr.fieldAt 209 (.pointer (some ⟨g, 0, none⟩)) 1).run Tryz.prog W = .ok (.pointer (some ⟨g, 1, none⟩)) W := by
  simp [Instr.fieldAt, run_underlying Tryz.underlying209, Instr.sureAddr, fieldPlace, Addr.add]
theorem shape_size : (Tryz.prog.info? 181).map (·.size) = some 6 := by kernel_rfl
end Go.Proofs.YtblpkmmhmdpkjaaGreatDoor
