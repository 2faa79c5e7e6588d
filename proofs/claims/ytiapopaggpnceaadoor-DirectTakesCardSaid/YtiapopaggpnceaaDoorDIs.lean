
/- direct's Put and Take. -/

import Derived.Test.YtiapopaggpnceaaDoorDOwn

import Derived.Test.YtiapopaggpnceaaDoorNum

namespace Go.Proofs.YtiapopaggpnceaaDoor

open Go.RowKit

theorem most_is {l : List Nat} {v : Value} {w : World} (h : IsV uv l v w) (hb : l.length ≤ 1000000) (h64 : ∀ x ∈ l, x < 2 ^ 64) : Calls Tryd.prog 32 #[v] w fun e w' => e = .returned (.int .i64 (wmost l : Int)) ∧ w = w' := by
  obtain ⟨A, c, rfl, h2, h3, h4, h5⟩ := h
  exact most_any A _ c l w h2 rfl h3 hb h5 h64
set_option maxHeartbeats 2000000 in
set_option maxRecDepth 100000 in
theorem dput_any (l : List Int) (v : Value) (s : Bool) (w : World) (ht : WTab w) (hv : IsV iv l v w) (hl : ∀ x ∈ l, inInt x) (hb : l.length ≤ 1000000) :
    Calls Tryd.prog 20 #[v, .bool s] w (RetE w (dputE l s)) := by
  have HP := Lib.hid (dplain_any l v s w hv hl hb)
  obtain ⟨A, c, rfl, hA, hnc, hcm, hlw⟩ := hv
  obtain ⟨n, hn⟩ : ∃ n, n = l.length := ⟨_, rfl⟩
  rw [← hn] at hA hnc hb HP ⊢
  by_cases hlen : n < 1 ∨ 512 < n
  · have hE := Lib.hid (dputE_len (l := l) (s := s) (by omega))
    have HC := Lib.hid (dcount_no (n : Int) w (by omega))
    clear hn hlw hcm hA hlen ht
    go_enter Tryd.func20, Tryd.ntmps20
    go_wp2_with (go_at_call 26; refine HC.out.mono ?_; rintro e w' ⟨rfl, rfl⟩)
    go_ret2
    rw [hE.out]
    exact RetE.nil _ (Below.refl _ _)
  · have HC := Lib.hid (dcount_yes (n : Int) w (by omega) (by omega))
    cases hd : dplain l s with
    | none =>
      have hE := Lib.hid (dputE_no hd)
      have hpe : dplainE l s = ([], 1) := by unfold dplainE; rw [hd]
      rw [hpe] at HP
      clear hn hlw hcm hA hd hpe ht
      go_enter Tryd.func20, Tryd.ntmps20
      go_wp2_with (first | (go_at_call 26; refine HC.out.mono ?_; rintro e w' ⟨rfl, rfl⟩) | (go_at_call 14; refine HP.out.mono ?_))
      rintro e w1 ⟨u, rfl, hu, hb1⟩
      obtain ⟨A1, c1, rfl, _⟩ := hu
      go_wp2
      go_ret2
      rw [hE.out]
      exact RetE.nil _ hb1
    | some us =>
      have hpe : dplainE l s = (us, 0) := by unfold dplainE; rw [hd]
      rw [hpe] at HP
      have H64 := Lib.hid (dplain_lt hl hd)
      have hul := dplain_len hd
      rw [← hn] at hul
      have hE := Lib.hid (dputE_ok hd (by omega) (by omega))
      have hus : us.length ≤ 512 := by omega
      have HUL := Lib.hid hul
      obtain ⟨W, hW⟩ : ∃ W, W = dwide us := ⟨_, rfl⟩
      obtain ⟨C, hC⟩ : ∃ C, C = dcode us := ⟨_, rfl⟩
      have HW := Lib.hid hW
      have HC2 := Lib.hid hC
      have HCL := Lib.hid (fun X (h : WTab X) => closest_any (wmost us : Int) X h)
      rw [dwide_int, ← hW] at HCL
      have HPK := Lib.hid (fun (u : Value) (X : World) (h : IsV uv us u X) => pack_is (W : Int) (isU_iff.2 h) (by omega) H64.out)
      rw [hW, dpacks H64.out, ← hW] at HPK
      obtain ⟨hci, hc31, _⟩ := dcode_int H64.out
      have HCD := Lib.hid (fun X (h : WTab X) => code_any (W : Int) X h)
      rw [hW, hci, ← hC, ← hW] at HCD
      have HHD := Lib.hid (fun X (h : WTab X) => dhead_own 1 (C : Int) (n : Int) X h (by unfold inInt; omega) (by unfold inInt; omega) (by unfold inInt; omega))
      rw [show (1 : Int) = ((1 : Nat) : Int) from rfl, dhead_in (by omega) (by rw [hC]; exact hc31) (by omega) (by omega), show ((1 : Nat) : Int) = (1 : Int) from rfl] at HHD
      have hsz : (bpack us W).length ≤ 4096 := by rw [bpack_len]; exact bsize_small hus (by rw [hW]; exact (dwide_room H64.out).2.1)
      have HT := Lib.hid ht
      clear hn hlw hcm hA hd hpe hul hW hC hci hc31 hlen ht
      go_enter Tryd.func20, Tryd.ntmps20
      go_wp2_with (first | (go_at_call 26; refine HC.out.mono ?_; rintro e w' ⟨rfl, rfl⟩) | (go_at_call 14; refine HP.out.mono ?_))
      rintro e w1 ⟨u, rfl, hu, hb1⟩
      obtain ⟨A1, c1, rfl, hr⟩ := hu
      have hu : IsV uv us (.slice A1 us.length c1) w1 := ⟨A1, c1, rfl, hr⟩
      have HB1 := Lib.hid hb1
      have HM := Lib.hid (most_is hu (by omega) H64.out)
      have HPK1 := Lib.hid (HPK.out _ w1 hu)
      have HCL1 := Lib.hid (HCL.out w1 (HT.out.below hb1 HT.out.lt))
      clear hb1 hr hu
      go_wp2_with (first | (go_at_call 32; refine HM.out.mono ?_; rintro e w' ⟨rfl, rfl⟩) | (go_at_call 31; refine HCL1.out.mono ?_; rintro e w' ⟨rfl, rfl⟩) | (go_at_call 33; refine HPK1.out.mono ?_))
      rintro e w2 ⟨pk, rfl, hpk, hb2⟩
      obtain ⟨A2, c2, rfl, hA2, hn2, hm2, hl2⟩ := hpk
      have hb02 := below_then HB1.out hb2
      have HB2 := Lib.hid hb02
      have HCD2 := Lib.hid (HCD.out w2 (HT.out.below hb02 HT.out.lt))
      have HHD2 := Lib.hid (HHD.out w2 (HT.out.below hb02 HT.out.lt))
      clear hb2 hb02
      go_wp2_with (first | (go_at_call 34; refine HCD2.out.mono ?_; rintro e w' ⟨rfl, rfl⟩) | (go_at_call 11; refine HHD2.out.mono ?_))
      rintro e w3 ⟨hv3, rfl, hh, hb3⟩
      rw [dheadN_len] at hh
      have hz3 := hb3.size
      have hl3 := hl2.below hb3
      have HB3 := Lib.hid (below_then HB2.out hb3)
      obtain ⟨pl, hpl⟩ : ∃ pl, pl = (bpack us W).length := ⟨_, rfl⟩
      have hpm : ((bpack us W).map bv).length = pl := by rw [List.length_map, hpl]
      have HPM := Lib.hid hpm
      rw [← hpl] at hsz hA2 hn2 ⊢
      have HPL := Lib.hid hpl
      obtain ⟨xs, hxs⟩ : ∃ xs, xs = (dheadN 1 C n).map bv := ⟨_, rfl⟩
      rw [← hxs] at hh
      have HXS := Lib.hid hxs
      clear hpm hpl hxs
      go_wp2_with (at_builtin; refine wpList_join elemB rfl _ _ rfl w2.heap.size _ _ _ _ _ _ ((bpack us W).map bv) w2 rfl rfl hA2 HPM.out hl3 (bv_one _) hh hb3 hz3 (by omega) (by omega) ?_)
      intro v4 w4 hown4 hb4 _ _
      have HO := Lib.hid (show IsB (dlay us) v4 w4 by
        have e1 : dlay us = dheadN 1 C n ++ bpack us W := by unfold dlay; rw [HUL.out, ← HC2.out, ← HW.out]
        rw [e1]
        refine isB_own (n := 2 + pl) (base := w2.heap.size) (e := 5) ?_
        rw [List.map_append, ← HXS.out]
        exact hown4)
      have HB4 := Lib.hid (below_then HB2.out hb4)
      clear hown4 hb4 hh hb3 hz3 hl3
      go_wp2
      go_ret2
      rw [hE.out]
      exact ⟨_, rfl, HO.out, HB4.out⟩
/-- What Unpack answers, as a fact of a region. -/
def Fact.taken (w0 : World) (us : List Nat) (q : List UInt8) (y : Int) : Fact := ⟨fun v w => ∃ u r, v = .tuple #[u, r, .int .i64 y] ∧ IsV uv us u w ∧ OwnB w0 q r w, fun _ _ _ ⟨u, r, h1, h2, h3⟩ hb => ⟨u, r, h1, h2.below hb, h3.below hb⟩⟩
def Fact.ownB (w0 : World) (q : List UInt8) : Fact := ⟨OwnB w0 q, fun _ _ _ h hb => h.below hb⟩
theorem gives_extract {P : Program} {o : Oper} {ρ : Operand → Value} {w : World} {R : Value → World → Prop} {x : Operand} {i : Nat} {vs : Array Value} {v : Value} (ho : o.op = .extract x i) (hx : ρ x = .tuple vs) (hv : vs[i]? = some v) (hR : R v w) : Gives P o ρ w R := by
  refine gives_of (v := v) (w' := w) ?_ hR
  simp [execOp, ho, hx, hv, go_sem]
set_option maxHeartbeats 2000000 in
set_option maxRecDepth 100000 in
theorem dtake_own (l : List UInt8) (v : Value) (s : Bool) (w : World) (ht : WTab w) (hv : IsB l v w) (hb : l.length ≤ 1000000) :
    Calls Tryd.prog 22 #[v, .bool s] w (RetIO w (dtakeE l s)) := by
  obtain ⟨A, c, rfl, hA, hnc, hcm, hl⟩ := hv
  obtain ⟨n, hn⟩ : ∃ n, n = l.length := ⟨_, rfl⟩
  rw [← hn] at hA hnc hb ⊢
  have hci : (c : Int) ≤ 9223372036854775807 := by unfold maxLen at hcm; omega
  have HT := Lib.hid ht
  clear ht
  rcases dlook_or l with ⟨h2, hd⟩ | ⟨h2, K, C, M, hK, hC, hM1, hM, hd⟩
  · have HR := Lib.hid (dread_no A n c w (by omega))
    have hE := Lib.hid (dtakeE_no (l := l) (s := s) (.inl (by rw [hd]; decide)))
    clear hd hl hn hA
    go_enter Tryd.func22, Tryd.ntmps22
    go_wp2_with (go_at_call 24; refine HR.out.mono ?_)
    rintro e w1 ⟨rfl, hb1⟩
    go_wp2
    go_ret3
    rw [hE.out]
    exact RetIO.nil _ hb1
  · rw [← hn] at h2
    have HR := Lib.hid (dread_yes A n c K C M l w hl hn.symm h2 hb hd)
    by_cases hk1 : K = 1
    · subst hk1
      have HD := Lib.hid hd
      have HF := Lib.hid fun (W : World) (h : Below w.heap.size w W) => from_named (P := Tryd.prog) elemB (k := 2) (by omega) hnc hcm hn.symm (hl.below h) hA
      rw [show ((2 : Nat) : Int) = 2 from rfl] at HF
      obtain ⟨W, hW⟩ : ∃ W, W = wof (C : Int) := ⟨_, rfl⟩
      have HOF := Lib.hid (fun X (h : WTab X) => of_any (C : Int) X h (by omega) (by omega))
      rw [← hW] at HOF
      obtain ⟨us, q, y, hu⟩ : ∃ us q y, unpacksAny (l.drop 2) (M : Int) W = (us, q, y) := ⟨_, _, _, rfl⟩
      have hlt := (unpacksAny_lt (l := l.drop 2) (M := (M : Int)) (W := W)).1
      have hmany := (unpacksAny_lt (l := l.drop 2) (M := (M : Int)) (W := W)).2
      rw [hu] at hlt hmany
      dsimp only at hlt hmany
      have HU := Lib.hid hu
      have HLT := Lib.hid hlt
      have HUN := Lib.hid (fun (u : Value) (X : World) (h : IsB (l.drop 2) u X) => unpack_isO (M : Int) W h (by rw [List.length_drop]; omega))
      rw [HU.out] at HUN
      have HWW := Lib.hid hW
      have hn2 : (2 : Int) ≤ (n : Int) := by omega
      have d1 : (((1 : Nat) : Int) != 1) = false := by simp
      clear hd hu hlt hW hl hn
      by_cases hy : y = 0
      · subst hy
        have HMD := Lib.hid (fun (u : Value) (X : World) (h : IsV uv us u X) => dmade_any us u s X h HLT.out (by omega))
        cases hm : dmade us s with
        | none =>
          have hpe : dmadeE us s = ([], 2) := by unfold dmadeE; rw [hm]
          rw [hpe] at HMD
          have hE := Lib.hid (dtakeE_bad (s := s) HD.out (by rw [← HWW.out]; exact HU.out) hm)
          clear hm hpe
          go_enter Tryd.func22, Tryd.ntmps22
          go_wp2_with (go_at_call 24; refine HR.out.mono ?_)
          rintro e w1 ⟨rfl, hb1⟩
          have HB1 := Lib.hid hb1
          have HOF1 := HOF
          have HT1 := Lib.hid (HT.out.below hb1 HT.out.lt)
          obtain ⟨v3, hv3, hI3⟩ := HF.out w1 hb1
          have HI3 := Lib.hid hI3
          clear hb1 hI3
          go_wp2_with fail
          refine wp_region_list [.is (.slice A n c), .is (v3), .is (.int .i64 (M : Int)), .is (.int .i64 (C : Int)), .is (.int .i64 W), .taken w1 us q 0, .taken w1 us q 0, .vals uv us, .ownB w1 q, .is (.int .i64 0), .vals uv us, .ownB w1 q, .is (.int .i64 0)] [some 29, some 30, some 31, some 32, some 33, some 34, some 28, some 35, some 36, some 37, some 11, some 12, some 13] (by kernel_rfl) (by kernel_rfl) (by kernel_rfl) rfl ⟨?_, ?_, ?_, ?_, ?_, ?_, ?_, ?_, ?_, ?_, ?_, ?_, ?_, trivial⟩ ?_
          · intro ρ W1 hb1 H
            exact gives_move rfl (H.old 0 _ (by kernel_rfl) rfl) ⟨rfl, Below.refl _ _⟩
          · intro ρ W1 hb1 H
            exact gives_slice rfl (H.new 29 0 (by kernel_rfl)) rfl rfl rfl (by simpa [H.const] using hv3 W1) ⟨rfl, Below.refl _ _⟩
          · intro ρ W1 hb1 H
            exact gives_move rfl (H.old 9 _ (by kernel_rfl) rfl) ⟨rfl, Below.refl _ _⟩
          · intro ρ W1 hb1 H
            exact gives_move rfl (H.old 8 _ (by kernel_rfl) rfl) ⟨rfl, Below.refl _ _⟩
          · intro ρ W1 hb1 H
            have e0 : ρ (.tmp 32) = .int .i64 (C : Int) := H.new 32 3 (by kernel_rfl)
            refine gives_call rfl (fun _ _ => by kernel_rfl) (H.func _) (args := #[.int .i64 (C : Int)]) (by simp [e0]) ?_
            exact (HOF1.out W1 (HT1.out.below hb1 HT1.out.lt)).mono fun e w' ⟨h1, h2⟩ => ⟨_, h1, rfl, h2 ▸ Below.refl _ _⟩
          · intro ρ W1 hb1 H
            have e0 : ρ (.tmp 30) = v3 := H.new 30 1 (by kernel_rfl)
            have e1 : ρ (.tmp 31) = .int .i64 (M : Int) := H.new 31 2 (by kernel_rfl)
            have e2 : ρ (.tmp 33) = .int .i64 W := H.new 33 4 (by kernel_rfl)
            refine gives_call rfl (fun _ _ => by kernel_rfl) (H.func _) (args := #[v3, .int .i64 (M : Int), .int .i64 W]) (by simp [e0, e1, e2]) ?_
            exact (HUN.out v3 W1 (HI3.out.below hb1)).mono fun e w' ⟨u, r, h1, h2, h3, h4⟩ => ⟨_, h1, ⟨u, r, rfl, isV_own h2, OwnB.base hb1.size h3⟩, h4⟩
          · intro ρ W1 hb1 H
            exact gives_move rfl rfl ⟨H.new 34 5 (by kernel_rfl), Below.refl _ _⟩
          · intro ρ W1 hb1 H
            have h28 : ∃ u r, ρ (.tmp 28) = .tuple #[u, r, .int .i64 0] ∧ IsV uv us u W1 ∧ OwnB w1 q r W1 := H.new 28 6 (by kernel_rfl)
            obtain ⟨u, r, h1, h2, h3⟩ := h28
            exact gives_extract rfl h1 rfl ⟨h2, Below.refl _ _⟩
          · intro ρ W1 hb1 H
            have h28 : ∃ u r, ρ (.tmp 28) = .tuple #[u, r, .int .i64 0] ∧ IsV uv us u W1 ∧ OwnB w1 q r W1 := H.new 28 6 (by kernel_rfl)
            obtain ⟨u, r, h1, h2, h3⟩ := h28
            exact gives_extract rfl h1 rfl ⟨h3, Below.refl _ _⟩
          · intro ρ W1 hb1 H
            have h28 : ∃ u r, ρ (.tmp 28) = .tuple #[u, r, .int .i64 0] ∧ IsV uv us u W1 ∧ OwnB w1 q r W1 := H.new 28 6 (by kernel_rfl)
            obtain ⟨u, r, h1, h2, h3⟩ := h28
            exact gives_extract rfl h1 rfl ⟨rfl, Below.refl _ _⟩
          · intro ρ W1 hb1 H
            exact gives_assign rfl rfl ⟨H.new 35 7 (by kernel_rfl), Below.refl _ _⟩
          · intro ρ W1 hb1 H
            exact gives_assign rfl rfl ⟨H.new 36 8 (by kernel_rfl), Below.refl _ _⟩
          · intro ρ W1 hb1 H
            exact gives_assign rfl (H.new 37 9 (by kernel_rfl)) ⟨rfl, Below.refl _ _⟩
          · intro vs W1 hb1 hfs
            have f10 : IsV uv us (vs 10) W1 := hfs 10 (by decide)
            have f11 : OwnB w1 q (vs 11) W1 := hfs 11 (by decide)
            have f12 : vs 12 = .int .i64 0 := hfs 12 (by decide)
            clear hfs
            simp only [putAll, Nat.zero_add, Nat.reduceAdd]
            generalize vs 0 = z0
            generalize vs 1 = z1
            generalize vs 2 = z2
            generalize vs 3 = z3
            generalize vs 4 = z4
            generalize vs 5 = z5
            generalize vs 6 = z6
            generalize vs 7 = z7
            generalize vs 8 = z8
            generalize vs 9 = z9
            generalize vs 10 = z10 at f10 ⊢
            generalize vs 11 = z11 at f11 ⊢
            simp only [f12, Act.put, List.setIfInBounds_toArray, List.set_cons_succ, List.set_cons_zero]
            clear f12
            have HB2 := Lib.hid (below_then HB1.out hb1)
            have HI := Lib.hid f10
            have HQ := Lib.hid (OwnB.base HB1.out.size f11)
            clear hb1 f10 f11
            go_wp2_with (go_at_call 16; refine (HMD.out _ _ HI.out).mono ?_)
            rintro e w3 ⟨m3, rfl, hm3, hb3⟩
            obtain ⟨A3, c3, rfl, _⟩ := hm3
            go_wp2
            go_ret3
            rw [hE.out]
            exact RetIO.nil _ (below_then HB2.out hb3)
        | some m =>
          have hpe : dmadeE us s = (m, 0) := by unfold dmadeE; rw [hm]
          rw [hpe] at HMD
          have hE := Lib.hid (dtakeE_ok (s := s) HD.out (by rw [← HWW.out]; exact HU.out) hm)
          clear hm hpe
          go_enter Tryd.func22, Tryd.ntmps22
          go_wp2_with (go_at_call 24; refine HR.out.mono ?_)
          rintro e w1 ⟨rfl, hb1⟩
          have HB1 := Lib.hid hb1
          have HOF1 := HOF
          have HT1 := Lib.hid (HT.out.below hb1 HT.out.lt)
          obtain ⟨v3, hv3, hI3⟩ := HF.out w1 hb1
          have HI3 := Lib.hid hI3
          clear hb1 hI3
          go_wp2_with fail
          refine wp_region_list [.is (.slice A n c), .is (v3), .is (.int .i64 (M : Int)), .is (.int .i64 (C : Int)), .is (.int .i64 W), .taken w1 us q 0, .taken w1 us q 0, .vals uv us, .ownB w1 q, .is (.int .i64 0), .vals uv us, .ownB w1 q, .is (.int .i64 0)] [some 29, some 30, some 31, some 32, some 33, some 34, some 28, some 35, some 36, some 37, some 11, some 12, some 13] (by kernel_rfl) (by kernel_rfl) (by kernel_rfl) rfl ⟨?_, ?_, ?_, ?_, ?_, ?_, ?_, ?_, ?_, ?_, ?_, ?_, ?_, trivial⟩ ?_
          · intro ρ W1 hb1 H
            exact gives_move rfl (H.old 0 _ (by kernel_rfl) rfl) ⟨rfl, Below.refl _ _⟩
          · intro ρ W1 hb1 H
            exact gives_slice rfl (H.new 29 0 (by kernel_rfl)) rfl rfl rfl (by simpa [H.const] using hv3 W1) ⟨rfl, Below.refl _ _⟩
          · intro ρ W1 hb1 H
            exact gives_move rfl (H.old 9 _ (by kernel_rfl) rfl) ⟨rfl, Below.refl _ _⟩
          · intro ρ W1 hb1 H
            exact gives_move rfl (H.old 8 _ (by kernel_rfl) rfl) ⟨rfl, Below.refl _ _⟩
          · intro ρ W1 hb1 H
            have e0 : ρ (.tmp 32) = .int .i64 (C : Int) := H.new 32 3 (by kernel_rfl)
            refine gives_call rfl (fun _ _ => by kernel_rfl) (H.func _) (args := #[.int .i64 (C : Int)]) (by simp [e0]) ?_
            exact (HOF1.out W1 (HT1.out.below hb1 HT1.out.lt)).mono fun e w' ⟨h1, h2⟩ => ⟨_, h1, rfl, h2 ▸ Below.refl _ _⟩
          · intro ρ W1 hb1 H
            have e0 : ρ (.tmp 30) = v3 := H.new 30 1 (by kernel_rfl)
            have e1 : ρ (.tmp 31) = .int .i64 (M : Int) := H.new 31 2 (by kernel_rfl)
            have e2 : ρ (.tmp 33) = .int .i64 W := H.new 33 4 (by kernel_rfl)
            refine gives_call rfl (fun _ _ => by kernel_rfl) (H.func _) (args := #[v3, .int .i64 (M : Int), .int .i64 W]) (by simp [e0, e1, e2]) ?_
            exact (HUN.out v3 W1 (HI3.out.below hb1)).mono fun e w' ⟨u, r, h1, h2, h3, h4⟩ => ⟨_, h1, ⟨u, r, rfl, isV_own h2, OwnB.base hb1.size h3⟩, h4⟩
          · intro ρ W1 hb1 H
            exact gives_move rfl rfl ⟨H.new 34 5 (by kernel_rfl), Below.refl _ _⟩
          · intro ρ W1 hb1 H
            have h28 : ∃ u r, ρ (.tmp 28) = .tuple #[u, r, .int .i64 0] ∧ IsV uv us u W1 ∧ OwnB w1 q r W1 := H.new 28 6 (by kernel_rfl)
            obtain ⟨u, r, h1, h2, h3⟩ := h28
            exact gives_extract rfl h1 rfl ⟨h2, Below.refl _ _⟩
          · intro ρ W1 hb1 H
            have h28 : ∃ u r, ρ (.tmp 28) = .tuple #[u, r, .int .i64 0] ∧ IsV uv us u W1 ∧ OwnB w1 q r W1 := H.new 28 6 (by kernel_rfl)
            obtain ⟨u, r, h1, h2, h3⟩ := h28
            exact gives_extract rfl h1 rfl ⟨h3, Below.refl _ _⟩
          · intro ρ W1 hb1 H
            have h28 : ∃ u r, ρ (.tmp 28) = .tuple #[u, r, .int .i64 0] ∧ IsV uv us u W1 ∧ OwnB w1 q r W1 := H.new 28 6 (by kernel_rfl)
            obtain ⟨u, r, h1, h2, h3⟩ := h28
            exact gives_extract rfl h1 rfl ⟨rfl, Below.refl _ _⟩
          · intro ρ W1 hb1 H
            exact gives_assign rfl rfl ⟨H.new 35 7 (by kernel_rfl), Below.refl _ _⟩
          · intro ρ W1 hb1 H
            exact gives_assign rfl rfl ⟨H.new 36 8 (by kernel_rfl), Below.refl _ _⟩
          · intro ρ W1 hb1 H
            exact gives_assign rfl (H.new 37 9 (by kernel_rfl)) ⟨rfl, Below.refl _ _⟩
          · intro vs W1 hb1 hfs
            have f10 : IsV uv us (vs 10) W1 := hfs 10 (by decide)
            have f11 : OwnB w1 q (vs 11) W1 := hfs 11 (by decide)
            have f12 : vs 12 = .int .i64 0 := hfs 12 (by decide)
            clear hfs
            simp only [putAll, Nat.zero_add, Nat.reduceAdd]
            generalize vs 0 = z0
            generalize vs 1 = z1
            generalize vs 2 = z2
            generalize vs 3 = z3
            generalize vs 4 = z4
            generalize vs 5 = z5
            generalize vs 6 = z6
            generalize vs 7 = z7
            generalize vs 8 = z8
            generalize vs 9 = z9
            generalize vs 10 = z10 at f10 ⊢
            generalize vs 11 = z11 at f11 ⊢
            simp only [f12, Act.put, List.setIfInBounds_toArray, List.set_cons_succ, List.set_cons_zero]
            clear f12
            have HB2 := Lib.hid (below_then HB1.out hb1)
            have HI := Lib.hid f10
            have HQ := Lib.hid (OwnB.base HB1.out.size f11)
            clear hb1 f10 f11
            go_wp2_with (go_at_call 16; refine (HMD.out _ _ HI.out).mono ?_)
            rintro e w3 ⟨m3, rfl, hm3, hb3⟩
            have HQ3 := Lib.hid (HQ.out.below hb3)
            have HM3 := Lib.hid hm3
            have HB3 := Lib.hid (below_then HB2.out hb3)
            clear hm3 hb3
            go_wp2
            go_ret3
            rw [hE.out]
            exact ⟨_, _, rfl, HM3.out, HQ3.out, HB3.out⟩
      · have hE := Lib.hid (dtakeE_cut (s := s) HD.out (by rw [← HWW.out]; exact HU.out) hy)
        have d2 : (y != 0) = true := by simpa using hy
        go_enter Tryd.func22, Tryd.ntmps22
        go_wp2_with (go_at_call 24; refine HR.out.mono ?_)
        rintro e w1 ⟨rfl, hb1⟩
        have HB1 := Lib.hid hb1
        have HOF1 := HOF
        have HT1 := Lib.hid (HT.out.below hb1 HT.out.lt)
        obtain ⟨v3, hv3, hI3⟩ := HF.out w1 hb1
        have HI3 := Lib.hid hI3
        clear hb1 hI3
        go_wp2_with fail
        refine wp_region_list [.is (.slice A n c), .is (v3), .is (.int .i64 (M : Int)), .is (.int .i64 (C : Int)), .is (.int .i64 W), .taken w1 us q y, .taken w1 us q y, .vals uv us, .ownB w1 q, .is (.int .i64 y), .vals uv us, .ownB w1 q, .is (.int .i64 y)] [some 29, some 30, some 31, some 32, some 33, some 34, some 28, some 35, some 36, some 37, some 11, some 12, some 13] (by kernel_rfl) (by kernel_rfl) (by kernel_rfl) rfl ⟨?_, ?_, ?_, ?_, ?_, ?_, ?_, ?_, ?_, ?_, ?_, ?_, ?_, trivial⟩ ?_
        · intro ρ W1 hb1 H
          exact gives_move rfl (H.old 0 _ (by kernel_rfl) rfl) ⟨rfl, Below.refl _ _⟩
        · intro ρ W1 hb1 H
          exact gives_slice rfl (H.new 29 0 (by kernel_rfl)) rfl rfl rfl (by simpa [H.const] using hv3 W1) ⟨rfl, Below.refl _ _⟩
        · intro ρ W1 hb1 H
          exact gives_move rfl (H.old 9 _ (by kernel_rfl) rfl) ⟨rfl, Below.refl _ _⟩
        · intro ρ W1 hb1 H
          exact gives_move rfl (H.old 8 _ (by kernel_rfl) rfl) ⟨rfl, Below.refl _ _⟩
        · intro ρ W1 hb1 H
          have e0 : ρ (.tmp 32) = .int .i64 (C : Int) := H.new 32 3 (by kernel_rfl)
          refine gives_call rfl (fun _ _ => by kernel_rfl) (H.func _) (args := #[.int .i64 (C : Int)]) (by simp [e0]) ?_
          exact (HOF1.out W1 (HT1.out.below hb1 HT1.out.lt)).mono fun e w' ⟨h1, h2⟩ => ⟨_, h1, rfl, h2 ▸ Below.refl _ _⟩
        · intro ρ W1 hb1 H
          have e0 : ρ (.tmp 30) = v3 := H.new 30 1 (by kernel_rfl)
          have e1 : ρ (.tmp 31) = .int .i64 (M : Int) := H.new 31 2 (by kernel_rfl)
          have e2 : ρ (.tmp 33) = .int .i64 W := H.new 33 4 (by kernel_rfl)
          refine gives_call rfl (fun _ _ => by kernel_rfl) (H.func _) (args := #[v3, .int .i64 (M : Int), .int .i64 W]) (by simp [e0, e1, e2]) ?_
          exact (HUN.out v3 W1 (HI3.out.below hb1)).mono fun e w' ⟨u, r, h1, h2, h3, h4⟩ => ⟨_, h1, ⟨u, r, rfl, isV_own h2, OwnB.base hb1.size h3⟩, h4⟩
        · intro ρ W1 hb1 H
          exact gives_move rfl rfl ⟨H.new 34 5 (by kernel_rfl), Below.refl _ _⟩
        · intro ρ W1 hb1 H
          have h28 : ∃ u r, ρ (.tmp 28) = .tuple #[u, r, .int .i64 y] ∧ IsV uv us u W1 ∧ OwnB w1 q r W1 := H.new 28 6 (by kernel_rfl)
          obtain ⟨u, r, h1, h2, h3⟩ := h28
          exact gives_extract rfl h1 rfl ⟨h2, Below.refl _ _⟩
        · intro ρ W1 hb1 H
          have h28 : ∃ u r, ρ (.tmp 28) = .tuple #[u, r, .int .i64 y] ∧ IsV uv us u W1 ∧ OwnB w1 q r W1 := H.new 28 6 (by kernel_rfl)
          obtain ⟨u, r, h1, h2, h3⟩ := h28
          exact gives_extract rfl h1 rfl ⟨h3, Below.refl _ _⟩
        · intro ρ W1 hb1 H
          have h28 : ∃ u r, ρ (.tmp 28) = .tuple #[u, r, .int .i64 y] ∧ IsV uv us u W1 ∧ OwnB w1 q r W1 := H.new 28 6 (by kernel_rfl)
          obtain ⟨u, r, h1, h2, h3⟩ := h28
          exact gives_extract rfl h1 rfl ⟨rfl, Below.refl _ _⟩
        · intro ρ W1 hb1 H
          exact gives_assign rfl rfl ⟨H.new 35 7 (by kernel_rfl), Below.refl _ _⟩
        · intro ρ W1 hb1 H
          exact gives_assign rfl rfl ⟨H.new 36 8 (by kernel_rfl), Below.refl _ _⟩
        · intro ρ W1 hb1 H
          exact gives_assign rfl (H.new 37 9 (by kernel_rfl)) ⟨rfl, Below.refl _ _⟩
        · intro vs W1 hb1 hfs
          have f10 : IsV uv us (vs 10) W1 := hfs 10 (by decide)
          have f11 : OwnB w1 q (vs 11) W1 := hfs 11 (by decide)
          have f12 : vs 12 = .int .i64 y := hfs 12 (by decide)
          clear hfs
          simp only [putAll, Nat.zero_add, Nat.reduceAdd]
          generalize vs 0 = z0
          generalize vs 1 = z1
          generalize vs 2 = z2
          generalize vs 3 = z3
          generalize vs 4 = z4
          generalize vs 5 = z5
          generalize vs 6 = z6
          generalize vs 7 = z7
          generalize vs 8 = z8
          generalize vs 9 = z9
          generalize vs 10 = z10 at f10 ⊢
          generalize vs 11 = z11 at f11 ⊢
          simp only [f12, Act.put, List.setIfInBounds_toArray, List.set_cons_succ, List.set_cons_zero]
          clear f12
          have HB2 := Lib.hid (below_then HB1.out hb1)
          have HI := Lib.hid f10
          have HQ := Lib.hid (OwnB.base HB1.out.size f11)
          clear hb1 f10 f11
          go_wp2
          go_ret3
          rw [hE.out]
          exact RetIO.nil _ HB2.out
    · have hE := Lib.hid (dtakeE_no (l := l) (s := s) (.inr (by rw [hd]; dsimp only; omega)))
      have d1 : ((K : Int) != 1) = true := by simp; omega
      clear hd hl hn hA
      go_enter Tryd.func22, Tryd.ntmps22
      go_wp2_with (go_at_call 24; refine HR.out.mono ?_)
      rintro e w1 ⟨rfl, hb1⟩
      go_wp2
      go_ret3
      rw [hE.out]
      exact RetIO.nil _ hb1
theorem dtake_any (l : List UInt8) (v : Value) (s : Bool) (w : World) (ht : WTab w) (hv : IsB l v w) (hb : l.length ≤ 1000000) :
    Calls Tryd.prog 22 #[v, .bool s] w (RetIB w (dtakeE l s)) := (dtake_own l v s w ht hv hb).mono fun _ _ h => h.ib
end Go.Proofs.YtiapopaggpnceaaDoor
