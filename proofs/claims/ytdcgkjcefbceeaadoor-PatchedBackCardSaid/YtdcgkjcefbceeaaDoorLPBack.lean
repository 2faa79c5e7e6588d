
/- The statement PatchedBack: for any numbers, any code of a width, any bytes behind, the law answers true. No condition. -/

import Derived.Test.YtdcgkjcefbceeaaDoorG4
namespace Go.Proofs.YtdcgkjcefbceeaaDoor

open Go.RowKit Go.ChangeShapes Go.WideShapes Go.ChangeAt

theorem pputE_cases (l : List Int) (w : Nat) (s : Bool) : pputE l (w : Int) s = ([], 1) ∨ ∃ us, pups l = some us ∧ 1 ≤ l.length ∧ l.length ≤ 512 ∧ 0 ≤ wcode (w : Int) ∧ w < 64 ∧ pbase l ≠ -9223372036854775808 ∧ (ppairs w us).length ≤ 31 ∧ pgw (ppairs w us) + ppw (ppairs w us) ≤ 64 ∧ pputE l (w : Int) s = (play (pbase l) us w, 0) := by
  unfold pputE
  by_cases h1 : dplain l s = none ∨ l.length < 1 ∨ 512 < l.length ∨ wcode (w : Int) < 0 ∨ 64 ≤ (w : Int)
  · exact .inl (if_pos h1)
  · rw [if_neg h1]
    cases hu : pups l with
    | none => exact .inl rfl
    | some us =>
      dsimp only
      rw [Int.toNat_natCast]
      by_cases h2 : pbase l = -9223372036854775808 ∨ 31 < (ppairs w us).length ∨ 64 < pgw (ppairs w us) + ppw (ppairs w us) ∨ 64 < w + ppw (ppairs w us)
      · exact .inl (if_pos h2)
      · refine .inr ⟨us, rfl, ?_, ?_, ?_, ?_, ?_, ?_, ?_, if_neg h2⟩
        · exact Nat.not_lt.1 fun h => h1 (.inr (.inl h))
        · exact Nat.not_lt.1 fun h => h1 (.inr (.inr (.inl h)))
        · exact Int.not_lt.1 fun h => h1 (.inr (.inr (.inr (.inl h))))
        · exact Nat.not_le.1 fun h => h1 (.inr (.inr (.inr (.inr (by omega)))))
        · exact fun h => h2 (.inl h)
        · exact Nat.not_lt.1 fun h => h2 (.inr (.inl h))
        · exact Nat.not_lt.1 fun h => h2 (.inr (.inr (.inl h)))
set_option maxHeartbeats 4000000 in
set_option maxRecDepth 100000 in
theorem PatchedBack_walk (w : World) (ht : WTab w) (v0 : Value) (l0 : List Int) (hI0 : IsV iv l0 v0 w) (hx0 : ∀ x ∈ l0, inInt x) (code : Int) (_hW0 : -9223372036854775808 ≤ code) (_hW1 : code ≤ 9223372036854775807) (v1 : Value) (l1 : List UInt8) (hI1 : IsB l1 v1 w) :
    Calls Tryd.prog 5 #[v0, .int .i64 code, v1] w fun e w' => e = .returned (.bool true) ∧ Below w.heap.size w w' := by
  obtain ⟨A0, n00, c0, rfl⟩ := IsV.shape (f := iv) hI0
  obtain ⟨hn0, -, hc0, hm0, -⟩ := IsV.parts (f := iv) hI0
  obtain ⟨n0, hmin0⟩ : ∃ n, n = min n00 512 := ⟨_, rfl⟩
  have HL := Lib.hid (IsV.take (f := iv) hI0 (show n0 ≤ n00 by omega))
  have HLL := Lib.hid (show (l0.take n0).length = n0 by rw [List.length_take]; omega)
  have hci0 : (c0 : Int) ≤ 9223372036854775807 := by unfold maxLen at hm0; omega
  have hnb0 : n0 ≤ 512 := by omega
  have hnc0 : n0 ≤ c0 := by omega
  obtain ⟨l0c, hl0c⟩ : ∃ l, l = l0.take n0 := ⟨_, rfl⟩
  have HXC : Hid (∀ x ∈ l0c, inInt x) := Lib.hid (by rw [hl0c]; exact mem_take hx0 n0)
  rw [← hl0c] at HL HLL
  clear hI0 hn0 hm0 hl0c
  obtain ⟨A1, n10, c1, rfl⟩ := IsV.shape (f := bv) hI1
  obtain ⟨hn1, -, hc1, hm1, -⟩ := IsV.parts (f := bv) hI1
  obtain ⟨n1, hmin1⟩ : ∃ n, n = min n10 50 := ⟨_, rfl⟩
  have HI := Lib.hid (IsV.take (f := bv) hI1 (show n1 ≤ n10 by omega))
  have HIL := Lib.hid (show (l1.take n1).length = n1 by rw [List.length_take]; omega)
  have hci1 : (c1 : Int) ≤ 9223372036854775807 := by unfold maxLen at hm1; omega
  have hnb1 : n1 ≤ 50 := by omega
  have hnc1 : n1 ≤ c1 := by omega
  obtain ⟨l1c, hl1c⟩ : ∃ l, l = l1.take n1 := ⟨_, rfl⟩
  rw [← hl1c] at HI HIL
  clear hI1 hn1 hm1 hl1c
  have HIM := Lib.hid (show (l1c.map bv).length = n1 by rw [List.length_map]; exact HIL.out)
  have HT := Lib.hid ht
  obtain ⟨q, hq⟩ : ∃ q, q = Int.tmod code 31 := ⟨_, rfl⟩
  have hqb : -30 ≤ q ∧ q ≤ 30 := by
    have h := Int.natAbs_tmod code 31
    rw [← hq, show (31 : Int).natAbs = 31 from rfl] at h
    omega
  obtain ⟨K, hK⟩ : ∃ K : Nat, K = q.natAbs := ⟨_, rfl⟩
  have hK30 : K ≤ 30 := by omega
  obtain ⟨W, hW⟩ : ∃ W : Nat, wof (K : Int) = (W : Int) := ⟨(wof (K : Int)).toNat, by have := wof_bd (K : Int); omega⟩
  have hW64 : W ≤ 64 := by have := wof_bd (K : Int); omega
  have HOF := Lib.hid (fun X => rof_any (K : Int) X (by omega) (by omega))
  rw [hW] at HOF
  have hqt : Int.tmod code 31 = q := hq.symm
  have hq31 : IntKind.i64.wrap q = q := by rw [IntKind.wrap_i64]; omega
  have hsgn : decide (q < 0) = true ∧ -q = (K : Int) ∨ decide (q < 0) = false ∧ q = (K : Int) := by
    by_cases h : q < 0
    · exact .inl ⟨decide_eq_true h, by omega⟩
    · exact .inr ⟨decide_eq_false h, by omega⟩
  clear ht hx0 hq hK hW
  rcases (by omega : n00 ≤ 512 ∧ n0 = n00 ∨ 512 < n00 ∧ n0 = 512) with ⟨h6, rfl⟩ | ⟨h6, rfl⟩
  all_goals
    rcases (by omega : n10 ≤ 50 ∧ n1 = n10 ∨ 50 < n10 ∧ n1 = 50) with ⟨h7, rfl⟩ | ⟨h7, rfl⟩
    all_goals
      rcases hsgn with ⟨hs, hk⟩ | ⟨hs, hk⟩
      all_goals
        clear hmin0 hmin1
        go_enter Tryd.func5, Tryd.ntmps5
        go_wp2_with fail
        refine (shown_any _ HT.out).mono ?_
        rintro e w1 ⟨rfl, hb1⟩
        have HT := Lib.hid (WTab.below HT.out hb1 (WTab.lt HT.out))
        have HI := Lib.hid (IsB.below HI.out hb1)
        have HL := Lib.hid (IsV.below HL.out hb1)
        have HB := Lib.hid hb1
        clear hb1
        have HP := Lib.hid (pput_any l0c _ (W : Int) true _ HT.out HL.out HXC.out (by have := HLL.out; omega) ⟨by omega, by omega⟩)
        go_wp2_with (go_at_call 14; refine (HOF.out _).mono ?_; rintro e w' ⟨rfl, rfl⟩)
        rcases pputE_cases l0c W true with hE | ⟨us, hu, h1, h5, hc, h64, hne, h31, hgp, hE⟩
        · rw [hE] at HP
          clear hE
          refine HP.out.mono ?_
          rintro e w31 ⟨vb, rfl, hvb, hb31⟩
          obtain ⟨Ab, cb, rfl, _⟩ := hvb
          have HT := Lib.hid (WTab.below HT.out hb31 (WTab.lt HT.out))
          have HI := Lib.hid (IsB.below HI.out hb31)
          have HL := Lib.hid (IsV.below HL.out hb31)
          have HB := Lib.hid (below_then HB.out hb31)
          clear hb31
          simp only [List.length_nil]
          go_wp2
          go_ret
          exact ⟨rfl, HB.out⟩
        · rw [hE] at HP
          have hbi : inInt (pbase l0c) := HXC.out _ (pbase_mem h1)
          have hul := pups_len hu
          have hll := play_len (base := pbase l0c) (us := us) (w := W) (by omega) (by omega) h31 (pn_small hbi hne) hgp
          have HTK : Hid (ptakeE (play (pbase l0c) us W ++ l1c) true = (l0c, l1c, 0)) := Lib.hid (ptake_back (fun x hx => ⟨HXC.out x hx, .inl rfl⟩) h1 h5 hc h64 hu hne h31 hgp l1c)
          have HL1 : Hid (l0c.length ≤ 1000000) := Lib.hid (by omega)
          obtain ⟨bs, hbs⟩ : ∃ bs, bs = play (pbase l0c) us W := ⟨_, rfl⟩
          rw [← hbs] at HP HTK hll
          clear hE h1 h5 hc h64 hne h31 hgp hu hbs hul hbi
          refine HP.out.mono ?_
          rintro e w31 ⟨vb, rfl, hvb, hb31⟩
          have HT := Lib.hid (WTab.below HT.out hb31 (WTab.lt HT.out))
          have HI := Lib.hid (IsB.below HI.out hb31)
          have HL := Lib.hid (IsV.below HL.out hb31)
          have HB := Lib.hid (below_then HB.out hb31)
          obtain ⟨Ab, nb, cb, rfl⟩ := IsV.shape (f := bv) hvb
          obtain ⟨hnb, hAb, -, hcb, hlb⟩ := IsV.parts (f := bv) (show IsV bv bs _ _ from hvb)
          have hcbi : (cb : Int) ≤ 9223372036854775807 := by unfold maxLen at hcb; omega
          have HBM := Lib.hid (show (bs.map bv).length = nb by rw [List.length_map]; exact hnb)
          have hnb5 : nb ≤ 9000 := by omega
          have HNB := Lib.hid hnb
          have hown0 := own_made w31 5
          have hbA : Below w31.heap.size w31 (w31.alloc (.cells #[] 5)) := (Below.refl _ _).alloc (Nat.le_refl _) _
          have hlA := hlb.below hbA
          have hzz := hbA.size
          clear hvb hb31 hlb hnb hcb
          go_wp2_with (at_builtin; refine wpList_join elemB rfl _ _ rfl w31.heap.size _ _ _ _ _ _ (bs.map bv) w31 rfl rfl hAb HBM.out hlA (bv_one bs) hown0 hbA hzz (by omega) (by omega) ?_)
          intro v5 w5 hown5 hb5 _ _
          have hz5 := hb5.size
          obtain ⟨-, hAi, -, -, hli⟩ := IsV.parts (f := bv) (IsB.below HI.out hb5)
          clear hown0 hbA hlA hzz
          go_wp2_with (at_builtin; refine wpList_join elemB rfl _ _ rfl w31.heap.size _ _ _ _ _ _ (l1c.map bv) w31 rfl rfl hAi HIM.out hli (bv_one l1c) hown5 hb5 hz5 (by omega) (by omega) ?_)
          intro v6 w6 hown6 hb6 _ _
          have HC := Lib.hid (show IsB (bs ++ l1c) v6 w6 from isB_own (l := bs ++ l1c) (by rw [List.map_append]; simpa using hown6))
          have HT := Lib.hid (WTab.below HT.out hb6 (WTab.lt HT.out))
          have HI := Lib.hid (IsB.below HI.out hb6)
          have HL := Lib.hid (IsV.below HL.out hb6)
          have HB := Lib.hid (below_then HB.out hb6)
          clear hown5 hown6 hb5 hb6 hz5 hli hAi hAb
          have HTA := Lib.hid (ptake_any (bs ++ l1c) v6 true w6 HT.out HC.out (by rw [List.length_append]; have := HNB.out; have := HIL.out; omega))
          rw [HTK.out] at HTA
          go_wp2_with fail
          refine (HTA.out).mono ?_
          rintro e w31 ⟨m, r, rfl, hm, hr, hb31⟩
          have HT := Lib.hid (WTab.below HT.out hb31 (WTab.lt HT.out))
          have HI := Lib.hid (IsB.below HI.out hb31)
          have HL := Lib.hid (IsV.below HL.out hb31)
          have HC := Lib.hid (IsB.below HC.out hb31)
          have HB := Lib.hid (below_then HB.out hb31)
          have HM := Lib.hid hm
          have HR := Lib.hid hr
          clear hm hr hb31
          go_wp2_with fail
          refine (same8_is HM.out HL.out HL1.out HL1.out).mono ?_
          rintro e w32 ⟨rfl, hb32⟩
          have HT := Lib.hid (WTab.below HT.out hb32 (WTab.lt HT.out))
          have HI := Lib.hid (IsB.below HI.out hb32)
          have HL := Lib.hid (IsV.below HL.out hb32)
          have HC := Lib.hid (IsB.below HC.out hb32)
          have HM := Lib.hid (IsV.below HM.out hb32)
          have HR := Lib.hid (IsB.below HR.out hb32)
          have HB := Lib.hid (below_then HB.out hb32)
          clear hb32
          have hz : (l0c == l0c) = true := by simp
          have hz2 : (l1c == l1c) = true := by simp
          have hc1 := textB HR.out
          have hc2 := textB HI.out
          go_wp2
          go_ret
          exact ⟨rfl, HB.out⟩

set_option maxRecDepth 100000 in
theorem PatchedBack_lifted (os : Os) (started : os.Started) (H : Type) (enc : TypeId × Value → H) :
    ReturnsInHanded {} Tryd.checked os 5 .any (fun w args => (Rows.patchedBackSpec.pre enc Tryd.prog Tryd.f5 [] false w args ∧ laidMetH Tryd.prog [("pilaster/widths.table", Rows.laid_pilaster_widths_table)] w) ∧ sizedMet enc Tryd.prog Tryd.f5 (OpenSpec.ofChange Rows.patchedBackSpec) false w args) (Rows.patchedBackSpec.post enc Tryd.prog Tryd.f5 false true false false) := by
  refine returnsInHanded_of_change_and (C := Tryd.checked) (X := fun w _ => laidMetH Tryd.prog [("pilaster/widths.table", Rows.laid_pilaster_widths_table)] w) (fun _ _ _ hh h => h.of_heap hh) own started (by kernel_rfl) Tryd.func5
    (ChangeSpec.witness_shaped (enc := enc) (C := Tryd.checked) (os := os) (X := fun w _ => laidMetH Tryd.prog [("pilaster/widths.table", Rows.laid_pilaster_widths_table)] w) false (World.doorLaid Tryd.prog 400 os) #[.slice none 0 0, .int .i64 0, .slice none 0 0] 8 rfl (World.shaped_of_RefB (by kernel_rfl) (by kernel_rfl)) (by kernel_rfl) (by kernel_rfl) (by kernel_rfl) (door_met os _)) ?_
  intro W base args ds gs before hval0 hW _ _ hL _
  have hT := tab_of hL
  clear hL
  have hval : ∀ (j : Nat) t v, Tryd.f5.params[j]? = some t → args[j]? = some v → Value.okWide Tryd.prog W .any base t v := hval0
  have hW' := hW
  obtain ⟨p, q, hT0, hV, rfl, hfz, hnd⟩ := hW
  have hA : DataW.TrodAll enc Tryd.prog W 0 (fun _ => true) true Tryd.f5.params.toList args.toList ds p := hT0
  rw [Tryd.params5] at hA hval
  obtain ⟨v0, vs0, d0, ds0, p0, q0, hargs, rfl, rfl, h0, r0⟩ := trodAll_cons hA
  obtain ⟨v1, vs1, d1, ds1, p1, q1, rfl, rfl, rfl, h1, r1⟩ := trodAll_cons r0
  obtain ⟨v2, vs2, d2, ds2, p2, q2, rfl, rfl, rfl, h2, r2⟩ := trodAll_cons r1
  obtain ⟨rfl, rfl, rfl⟩ := trodAll_nil r2
  obtain rfl : args = #[v0, v1, v2] := by cases args; simp_all
  obtain ⟨rfl, rfl⟩ := trodVars_none hV
  have hlt0 : ∀ x ∈ p0, x.block < W.heap.size := fun x hx => hW'.lt x (by simp [hx])
  obtain ⟨l0, hl0, hx0⟩ := open_intsv Tryd.underlying22 Tryd.underlying3 (by kernel_rfl) (hval 0 22 v0 rfl rfl) h0 hlt0
  obtain ⟨a1, rfl, rfl, rfl, w1⟩ := open_int Tryd.underlying3 (hval 1 3 v1 rfl rfl) h1
  have hlt2 : ∀ x ∈ p2, x.block < W.heap.size := fun x hx => hW'.lt x (by simp [hx])
  obtain ⟨l2, hl2⟩ := open_bytesv Tryd.underlying25 Tryd.underlying5 (by kernel_rfl) (hval 2 25 v2 rfl rfl) h2 hlt2
  clear hT0 hval0
  refine (PatchedBack_walk W hT v0 l0 hl0 hx0 a1 (wf_i64 w1).1 (wf_i64 w1).2 v2 l2 hl2).mono fun e W' ⟨he, hb⟩ => ?_
  subst he
  exact ⟨_, rfl, law_post laidOut Tryd.underlying4 (by kernel_rfl) (by kernel_rfl) rfl hW' rfl hb⟩

theorem PatchedBack_over : Rows.patchedBackRow.holds Tryd.pinned (OpenSpec.ofChange Rows.patchedBackSpec) :=
  OpenClaim.holds_of_wide 5 Tryd.f5 rfl rfl rfl rfl rfl rfl rfl ⟨rfl, rfl, rfl, rfl, rfl⟩ rfl rfl rfl rfl rfl (by kernel_rfl) Tryd.func5 (by kernel_rfl)
    (of_decide_eq_true (by kernel_rfl)) (by unfold Func.isWrapper; first | (rw [if_pos (by decide +kernel)]; kernel_rfl) | (rw [if_neg (by decide +kernel)]; exact ⟨rfl, rfl⟩))
    (fun os started H enc _ => PatchedBack_lifted os started H enc)

theorem PatchedBack_holds : Rows.PatchedBackCardSaid :=
  Claim7.holds_tied_plain_at .later [] _ true _ _ PatchedBack_over (fun _ h => by cases h) (by kernel_rfl) (fun _ h => by cases h) patchedBack_row_tie rfl ⟨rfl, rfl⟩ (by kernel_rfl) rfl
    (fun f fn hf hfn => by
      obtain rfl : f = 5 := Option.some.inj ((show Tryd.prog.funcNamed "pilaster/pilasterlaw10.PatchedBack" = some 5 by kernel_rfl).symm.trans hf) |>.symm
      obtain rfl : fn = Tryd.f5 := (Option.some.inj (Tryd.func5.symm.trans hfn)).symm
      exact ⟨by kernel_rfl, fun j t ht => stand_ins (by kernel_rfl) ht⟩)
    (by kernel_rfl)
#print axioms PatchedBack_holds

end Go.Proofs.YtdcgkjcefbceeaaDoor
