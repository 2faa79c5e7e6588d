
/- The statement StatsOf: for any kind and any values the law answers true. No condition. -/

import Derived.Test.YtgbmppdbahjjhaaDoorG4
namespace Go.Proofs.YtgbmppdbahjjhaaDoor

open Go.RowKit Go.ChangeShapes Go.WideShapes Go.ChangeAt

set_option maxHeartbeats 4000000 in
set_option maxRecDepth 100000 in
theorem StatsOf_walk (w : World) (hU : Tryd.U8 w) (k : Int) (_hk0 : -9223372036854775808 ≤ k) (_hk1 : k ≤ 9223372036854775807) (v1 : Value) (l1 : List CV) (hI1 : IsR kcells l1 v1 w) (hi1 : ∀ x ∈ l1, x.inInt) (hs1 : ∀ x ∈ l1, x.s.size ≤ maxLen) :
    Calls Tryd.prog 3 #[.int .i64 k, v1] w fun e w' => e = .returned (.bool true) ∧ Below w.heap.size w w' := by
  have HU := Lib.hid hU
  have HV := Lib.hid hI1
  have HI := Lib.hid hi1
  have HS := Lib.hid hs1
  have HQ := Lib.hid (eqS_run (gofE k (gfew k (l1.take 300))))
  clear hU hI1 hi1 hs1
  go_enter Tryd.func3, Tryd.ntmps3
  go_wp2_with fail
  refine (shown17_any w HU.out).mono ?_
  rintro e w1 ⟨rfl, hb1⟩
  have HB1 := Lib.hid hb1
  have HU1 := Lib.hid (Utf8Tabs_below HU.out hb1)
  have HV1 := Lib.hid (HV.out.below hb1)
  clear hb1
  go_wp2_with fail
  refine (few17_any k l1 v1 w1 HU1.out HV1.out HS.out).mono ?_
  rintro e w2 ⟨⟨u, rfl, hu⟩, hb2⟩
  have HB2 := Lib.hid (below_then HB1.out hb2)
  have HU2 := Lib.hid (Utf8Tabs_below HU1.out hb2)
  have HW := Lib.hid hu
  clear hu hb2
  obtain ⟨m, hm⟩ : ∃ m, m = gfew k (l1.take 300) := ⟨_, rfl⟩
  have HMI := Lib.hid (show ∀ x ∈ m, x.inInt from fun x hx => HI.out x (gfew_mem (by rw [← hm]; exact hx)).1)
  have HMS := Lib.hid (show ∀ x ∈ m, x.s.size ≤ maxLen from fun x hx => HS.out x (gfew_mem (by rw [← hm]; exact hx)).1)
  have HMM := Lib.hid (show ∀ x ∈ m, kmay k x = true from fun x hx => (gfew_mem (by rw [← hm]; exact hx)).2)
  have HML := Lib.hid (show m.length ≤ 300 by rw [hm]; exact gfew_len k l1)
  rw [← hm] at HW HQ
  clear hm
  go_wp2_with fail
  refine (gof_any k m u w2 HU2.out HW.out HMI.out HMS.out HMM.out (by have := HML.out; omega)).mono ?_
  rintro e w3 ⟨rfl, hb3⟩
  have HB3 := Lib.hid (below_then HB2.out hb3)
  have HW3 := Lib.hid (HW.out.below hb3)
  clear hb3
  go_wp2_with fail
  refine (rof17_any k m u w3 HW3.out HMI.out (by have := HML.out; omega)).mono ?_
  rintro e w4 ⟨rfl, hb4⟩
  have HB4 := Lib.hid (below_then HB3.out hb4)
  have hq := HQ.out
  have hqg := eqS_guard (gofE k m) (gofE k m)
  clear hb4
  go_wp2
  go_ret
  exact ⟨rfl, HB4.out⟩

set_option maxRecDepth 100000 in
theorem StatsOf_lifted (os : Os) (started : os.Started) (H : Type) (enc : TypeId × Value → H) :
    ReturnsInHanded {} Tryd.checked os 3 .any (fun w args => (Rows.statsOfSpec.pre enc Tryd.prog Tryd.f3 [] false w args ∧ laidMetH Tryd.prog [("unicode/utf8.acceptRanges", Rows.laid_unicode_utf8_acceptRanges), ("unicode/utf8.first", Rows.laid_unicode_utf8_first)] w) ∧ sizedMet enc Tryd.prog Tryd.f3 (OpenSpec.ofChange Rows.statsOfSpec) false w args) (Rows.statsOfSpec.post enc Tryd.prog Tryd.f3 false true false false) := by
  refine returnsInHanded_of_change_and (C := Tryd.checked) (X := fun w _ => laidMetH Tryd.prog [("unicode/utf8.acceptRanges", Rows.laid_unicode_utf8_acceptRanges), ("unicode/utf8.first", Rows.laid_unicode_utf8_first)] w) (fun _ _ _ hh h => h.of_heap hh) own started (by kernel_rfl) Tryd.func3
    (ChangeSpec.witness_shaped (enc := enc) (C := Tryd.checked) (os := os) (X := fun w _ => laidMetH Tryd.prog [("unicode/utf8.acceptRanges", Rows.laid_unicode_utf8_acceptRanges), ("unicode/utf8.first", Rows.laid_unicode_utf8_first)] w) false (World.laidAll Tryd.prog os [("unicode/utf8.acceptRanges", Rows.laid_unicode_utf8_acceptRanges), ("unicode/utf8.first", Rows.laid_unicode_utf8_first)]) #[.int .i64 0, .slice none 0 0] 8 (World.laidAll_os _ _ _) (World.shaped_of_ZipB (by kernel_rfl) (by kernel_rfl)) (by kernel_rfl) (by kernel_rfl) (by kernel_rfl) (by rw [MakeChecks.laidMetH_plain _ _ _ (by kernel_rfl)]; exact laidMet_laidAll _ (by kernel_rfl) (by kernel_rfl))) ?_
  intro W base args ds gs before hval0 hW _ _ hL _
  have hT := u8_of hL
  clear hL
  have hval : ∀ (j : Nat) t v, Tryd.f3.params[j]? = some t → args[j]? = some v → Value.okWide Tryd.prog W .any base t v := hval0
  have hW' := hW
  obtain ⟨p, q, hT0, hV, rfl, hfz, hnd⟩ := hW
  have hA : DataW.TrodAll enc Tryd.prog W 0 (fun _ => true) true Tryd.f3.params.toList args.toList ds p := hT0
  rw [Tryd.params3] at hA hval
  obtain ⟨v0, vs0, d0, ds0, p0, q0, hargs, rfl, rfl, h0, r0⟩ := trodAll_cons hA
  obtain ⟨v1, vs1, d1, ds1, p1, q1, rfl, rfl, rfl, h1, r1⟩ := trodAll_cons r0
  obtain ⟨rfl, rfl, rfl⟩ := trodAll_nil r1
  obtain rfl : args = #[v0, v1] := by cases args; simp_all
  obtain ⟨rfl, rfl⟩ := trodVars_none hV
  obtain ⟨a0, rfl, rfl, rfl, w0⟩ := open_int Tryd.underlying3 (hval 0 3 v0 rfl rfl) h0
  have hlt1 : ∀ x ∈ p1, x.block < W.heap.size := fun x hx => hW'.lt x (by simp [hx])
  obtain ⟨l1, hl1, hp1, hq1⟩ := open_vals (hval 1 22 v1 rfl rfl) h1 hlt1
  clear hT0 hval0
  refine (StatsOf_walk W hT a0 (wf_i64 w0).1 (wf_i64 w0).2 v1 l1 hl1 hp1 hq1).mono fun e W' ⟨he, hb⟩ => ?_
  subst he
  exact ⟨_, rfl, law_post laidOut Tryd.underlying4 (by kernel_rfl) (by kernel_rfl) rfl hW' rfl hb⟩

theorem StatsOf_over : Rows.statsOfRow.holds Tryd.pinned (OpenSpec.ofChange Rows.statsOfSpec) :=
  OpenClaim.holds_of_wide 3 Tryd.f3 rfl rfl rfl rfl rfl rfl rfl ⟨rfl, rfl, rfl, rfl, rfl⟩ rfl rfl rfl rfl rfl (by kernel_rfl) Tryd.func3 (by kernel_rfl)
    (of_decide_eq_true (by kernel_rfl)) (by unfold Func.isWrapper; first | (rw [if_pos (by decide +kernel)]; kernel_rfl) | (rw [if_neg (by decide +kernel)]; exact ⟨rfl, rfl⟩))
    (fun os started H enc _ => StatsOf_lifted os started H enc)

theorem StatsOf_holds : Rows.StatsOfCardSaid :=
  Claim7.holds_tied_plain_at .later [] _ true _ _ StatsOf_over (fun _ h => by cases h) (by kernel_rfl) (fun _ h => by cases h) statsOf_row_tie rfl ⟨rfl, rfl⟩ (by kernel_rfl) rfl
    (fun f fn hf hfn => by
      obtain rfl : f = 3 := Option.some.inj ((show Tryd.prog.funcNamed "pilaster/pilasterlaw17.StatsOf" = some 3 by kernel_rfl).symm.trans hf) |>.symm
      obtain rfl : fn = Tryd.f3 := (Option.some.inj (Tryd.func3.symm.trans hfn)).symm
      exact ⟨by kernel_rfl, fun j t ht => stand_ins (by kernel_rfl) ht⟩)
    (by kernel_rfl)
#print axioms StatsOf_holds

end Go.Proofs.YtgbmppdbahjjhaaDoor
