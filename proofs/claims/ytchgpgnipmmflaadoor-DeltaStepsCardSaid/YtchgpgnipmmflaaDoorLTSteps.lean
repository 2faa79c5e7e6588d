
/- The statement DeltaSteps: for any two numbers the law answers true. No condition. -/

import Derived.Test.YtchgpgnipmmflaaDoorG3
namespace Go.Proofs.YtchgpgnipmmflaaDoor

open Go.RowKit Go.ChangeShapes Go.WideShapes Go.ChangeAt

set_option maxHeartbeats 4000000 in
set_option maxRecDepth 100000 in
theorem DeltaSteps_walk (w : World) (ht : WTab w) (a : Int) (ha0 : -9223372036854775808 ≤ a) (ha1 : a ≤ 9223372036854775807) (b : Int) (hb0 : -9223372036854775808 ≤ b) (hb1 : b ≤ 9223372036854775807) :
    Calls Tryd.prog 7 #[.int .i64 a, .int .i64 b] w fun e w' => e = .returned (.bool true) ∧ Below w.heap.size w w' := by
  have ha : inInt a := ⟨ha0, ha1⟩
  have hb : inInt b := ⟨hb0, hb1⟩
  clear ha0 ha1 hb0 hb1
  have HT := Lib.hid ht
  clear ht
  have hlt := gdiff_lt a b
  rcases gdiff_cases a b with ⟨g1, hfar⟩ | ⟨hlt1, hfar, g1⟩ | ⟨hle, hfar, g1⟩
  · have g2 : gdiff b a = (0, false, false) := by
      rcases gdiff_cases b a with ⟨k, _⟩ | ⟨k1, k2, k⟩ | ⟨k1, k2, k⟩
      · exact k
      · omega
      · omega
    have HD1 := Lib.hid (fun W => tdiff_any a b W ha hb)
    have HD2 := Lib.hid (fun W => tdiff_any b a W hb ha)
    rw [g1] at HD1
    rw [g2] at HD2
    clear g1 g2 hlt hfar ha hb
    go_enter Tryd.func7, Tryd.ntmps7
    go_wp2_with fail
    refine (shown_any _ HT.out).mono ?_
    rintro e w1 ⟨rfl, hb1⟩
    have HT := Lib.hid (WTab.below HT.out hb1 (WTab.lt HT.out))
    have HB := Lib.hid hb1
    clear hb1
    go_wp2_with fail
    refine (HD1.out _).mono ?_
    rintro e w2 ⟨rfl, hb2⟩
    have HT := Lib.hid (WTab.below HT.out hb2 (WTab.lt HT.out))
    have HB := Lib.hid (below_then HB.out hb2)
    clear hb2
    go_wp2_with fail
    refine (HD2.out _).mono ?_
    rintro e w3 ⟨rfl, hb3⟩
    have HT := Lib.hid (WTab.below HT.out hb3 (WTab.lt HT.out))
    have HB := Lib.hid (below_then HB.out hb3)
    clear hb3
    go_wp2
    go_ret
    exact ⟨rfl, HB.out⟩
  · obtain ⟨n, hn⟩ : ∃ n, n = (a - b).toNat := ⟨_, rfl⟩
    have g2 : gdiff b a = (n, false, true) := by
      rcases gdiff_cases b a with ⟨_, k1⟩ | ⟨k1, k2, k⟩ | ⟨k1, k2, k⟩
      · omega
      · omega
      · rw [k, hn]
    rw [← hn] at g1
    have HD1 := Lib.hid (fun W => tdiff_any a b W ha hb)
    have HD2 := Lib.hid (fun W => tdiff_any b a W hb ha)
    rw [g1] at HD1
    rw [g2] at HD2
    have s1 := gstep_gdiff hb (a := a) (by rw [g1])
    have s2 := gstep_gdiff ha (a := b) (by rw [g2])
    rw [g1] at s1
    rw [g2] at s2
    dsimp only at s1 s2
    have HS1 := Lib.hid (fun W => tstep_any a (n : Int) true W ha (by omega) (by unfold inInt at *; omega))
    have HS2 := Lib.hid (fun W => tstep_any b (n : Int) false W hb (by omega) (by unfold inInt at *; omega))
    rw [Int.toNat_natCast, s1] at HS1
    rw [Int.toNat_natCast, s2] at HS2
    clear s1 s2 g1 g2
    have d1 : decide (b < a) = true := decide_eq_true hlt1
    have d2 : decide (a < b) = false := decide_eq_false (by omega)
    have d3 : (a == b) = false := by rw [beq_eq_false_iff_ne]; omega
    have d4 : ((n : Int) == 0) = false := by rw [beq_eq_false_iff_ne]; omega
    clear hn hlt hfar hlt1 ha hb
    go_enter Tryd.func7, Tryd.ntmps7
    go_wp2_with fail
    refine (shown_any _ HT.out).mono ?_
    rintro e w1 ⟨rfl, hb1⟩
    have HT := Lib.hid (WTab.below HT.out hb1 (WTab.lt HT.out))
    have HB := Lib.hid hb1
    clear hb1
    go_wp2_with fail
    refine (HD1.out _).mono ?_
    rintro e w2 ⟨rfl, hb2⟩
    have HT := Lib.hid (WTab.below HT.out hb2 (WTab.lt HT.out))
    have HB := Lib.hid (below_then HB.out hb2)
    clear hb2
    go_wp2_with fail
    refine (HD2.out _).mono ?_
    rintro e w3 ⟨rfl, hb3⟩
    have HT := Lib.hid (WTab.below HT.out hb3 (WTab.lt HT.out))
    have HB := Lib.hid (below_then HB.out hb3)
    clear hb3
    go_wp2_with fail
    refine (HS1.out _).mono ?_
    rintro e w4 ⟨rfl, hb4⟩
    have HT := Lib.hid (WTab.below HT.out hb4 (WTab.lt HT.out))
    have HB := Lib.hid (below_then HB.out hb4)
    clear hb4
    go_wp2_with fail
    refine (HS2.out _).mono ?_
    rintro e w5 ⟨rfl, hb5⟩
    have HT := Lib.hid (WTab.below HT.out hb5 (WTab.lt HT.out))
    have HB := Lib.hid (below_then HB.out hb5)
    clear hb5
    go_wp2
    go_ret
    exact ⟨rfl, HB.out⟩
  · obtain ⟨n, hn⟩ : ∃ n, n = (b - a).toNat := ⟨_, rfl⟩
    rw [← hn] at g1
    by_cases he : a = b
    · subst he
      have hn0 : n = 0 := by omega
      subst hn0
      have g2 := g1
      have HD1 := Lib.hid (fun W => tdiff_any a a W ha hb)
      have HD2 := Lib.hid (fun W => tdiff_any a a W hb ha)
      rw [g1] at HD1
      rw [g2] at HD2
      have s1 := gstep_gdiff hb (a := a) (by rw [g1])
      have s2 := gstep_gdiff ha (a := a) (by rw [g2])
      rw [g1] at s1
      rw [g2] at s2
      dsimp only at s1 s2
      have HS1 := Lib.hid (fun W => tstep_any a ((0 : Nat) : Int) false W ha (by omega) (by unfold inInt at *; omega))
      have HS2 := Lib.hid (fun W => tstep_any a ((0 : Nat) : Int) false W hb (by omega) (by unfold inInt at *; omega))
      rw [Int.toNat_natCast, s1] at HS1
      rw [Int.toNat_natCast, s2] at HS2
      clear s1 s2 g1 g2
      have d1 : decide (a < a) = false := decide_eq_false (by omega)
      clear hn hlt hfar hle ha hb
      go_enter Tryd.func7, Tryd.ntmps7
      go_wp2_with fail
      refine (shown_any _ HT.out).mono ?_
      rintro e w1 ⟨rfl, hb1⟩
      have HT := Lib.hid (WTab.below HT.out hb1 (WTab.lt HT.out))
      have HB := Lib.hid hb1
      clear hb1
      go_wp2_with fail
      refine (HD1.out _).mono ?_
      rintro e w2 ⟨rfl, hb2⟩
      have HT := Lib.hid (WTab.below HT.out hb2 (WTab.lt HT.out))
      have HB := Lib.hid (below_then HB.out hb2)
      clear hb2
      go_wp2_with fail
      refine (HD2.out _).mono ?_
      rintro e w3 ⟨rfl, hb3⟩
      have HT := Lib.hid (WTab.below HT.out hb3 (WTab.lt HT.out))
      have HB := Lib.hid (below_then HB.out hb3)
      clear hb3
      go_wp2_with fail
      refine (HS1.out _).mono ?_
      rintro e w4 ⟨rfl, hb4⟩
      have HT := Lib.hid (WTab.below HT.out hb4 (WTab.lt HT.out))
      have HB := Lib.hid (below_then HB.out hb4)
      clear hb4
      go_wp2_with fail
      refine (HS2.out _).mono ?_
      rintro e w5 ⟨rfl, hb5⟩
      have HT := Lib.hid (WTab.below HT.out hb5 (WTab.lt HT.out))
      have HB := Lib.hid (below_then HB.out hb5)
      clear hb5
      go_wp2
      go_ret
      exact ⟨rfl, HB.out⟩
    · have g2 : gdiff b a = (n, true, true) := by
        rcases gdiff_cases b a with ⟨_, k1⟩ | ⟨k1, k2, k⟩ | ⟨k1, k2, k⟩
        · omega
        · rw [k, hn]
        · omega
      have HD1 := Lib.hid (fun W => tdiff_any a b W ha hb)
      have HD2 := Lib.hid (fun W => tdiff_any b a W hb ha)
      rw [g1] at HD1
      rw [g2] at HD2
      have s1 := gstep_gdiff hb (a := a) (by rw [g1])
      have s2 := gstep_gdiff ha (a := b) (by rw [g2])
      rw [g1] at s1
      rw [g2] at s2
      dsimp only at s1 s2
      have HS1 := Lib.hid (fun W => tstep_any a (n : Int) false W ha (by omega) (by unfold inInt at *; omega))
      have HS2 := Lib.hid (fun W => tstep_any b (n : Int) true W hb (by omega) (by unfold inInt at *; omega))
      rw [Int.toNat_natCast, s1] at HS1
      rw [Int.toNat_natCast, s2] at HS2
      clear s1 s2 g1 g2
      have d1 : decide (b < a) = false := decide_eq_false (by omega)
      have d2 : decide (a < b) = true := decide_eq_true (by omega)
      have d3 : (a == b) = false := by rw [beq_eq_false_iff_ne]; exact he
      have d4 : ((n : Int) == 0) = false := by rw [beq_eq_false_iff_ne]; omega
      clear hn hlt hfar hle he ha hb
      go_enter Tryd.func7, Tryd.ntmps7
      go_wp2_with fail
      refine (shown_any _ HT.out).mono ?_
      rintro e w1 ⟨rfl, hb1⟩
      have HT := Lib.hid (WTab.below HT.out hb1 (WTab.lt HT.out))
      have HB := Lib.hid hb1
      clear hb1
      go_wp2_with fail
      refine (HD1.out _).mono ?_
      rintro e w2 ⟨rfl, hb2⟩
      have HT := Lib.hid (WTab.below HT.out hb2 (WTab.lt HT.out))
      have HB := Lib.hid (below_then HB.out hb2)
      clear hb2
      go_wp2_with fail
      refine (HD2.out _).mono ?_
      rintro e w3 ⟨rfl, hb3⟩
      have HT := Lib.hid (WTab.below HT.out hb3 (WTab.lt HT.out))
      have HB := Lib.hid (below_then HB.out hb3)
      clear hb3
      go_wp2_with fail
      refine (HS1.out _).mono ?_
      rintro e w4 ⟨rfl, hb4⟩
      have HT := Lib.hid (WTab.below HT.out hb4 (WTab.lt HT.out))
      have HB := Lib.hid (below_then HB.out hb4)
      clear hb4
      go_wp2_with fail
      refine (HS2.out _).mono ?_
      rintro e w5 ⟨rfl, hb5⟩
      have HT := Lib.hid (WTab.below HT.out hb5 (WTab.lt HT.out))
      have HB := Lib.hid (below_then HB.out hb5)
      clear hb5
      go_wp2
      go_ret
      exact ⟨rfl, HB.out⟩

set_option maxRecDepth 100000 in
theorem DeltaSteps_lifted (os : Os) (started : os.Started) (H : Type) (enc : TypeId × Value → H) :
    ReturnsInHanded {} Tryd.checked os 7 .any (fun w args => (Rows.deltaStepsSpec.pre enc Tryd.prog Tryd.f7 [] false w args ∧ laidMetH Tryd.prog [("pilaster/widths.table", Rows.laid_pilaster_widths_table)] w) ∧ sizedMet enc Tryd.prog Tryd.f7 (OpenSpec.ofChange Rows.deltaStepsSpec) false w args) (Rows.deltaStepsSpec.post enc Tryd.prog Tryd.f7 false true false false) := by
  refine returnsInHanded_of_change_and (C := Tryd.checked) (X := fun w _ => laidMetH Tryd.prog [("pilaster/widths.table", Rows.laid_pilaster_widths_table)] w) (fun _ _ _ hh h => h.of_heap hh) own started (by kernel_rfl) Tryd.func7
    (ChangeSpec.witness_shaped (enc := enc) (C := Tryd.checked) (os := os) (X := fun w _ => laidMetH Tryd.prog [("pilaster/widths.table", Rows.laid_pilaster_widths_table)] w) false (World.doorLaid Tryd.prog 400 os) #[.int .i64 0, .int .i64 0] 8 rfl (World.shaped_of_RefB (by kernel_rfl) (by kernel_rfl)) (by kernel_rfl) (by kernel_rfl) (by kernel_rfl) (door_met os _)) ?_
  intro W base args ds gs before hval0 hW _ _ hL _
  have hT := tab_of hL
  clear hL
  have hval : ∀ (j : Nat) t v, Tryd.f7.params[j]? = some t → args[j]? = some v → Value.okWide Tryd.prog W .any base t v := hval0
  have hW' := hW
  obtain ⟨p, q, hT0, hV, rfl, hfz, hnd⟩ := hW
  have hA : DataW.TrodAll enc Tryd.prog W 0 (fun _ => true) true Tryd.f7.params.toList args.toList ds p := hT0
  rw [Tryd.params7] at hA hval
  obtain ⟨v0, vs0, d0, ds0, p0, q0, hargs, rfl, rfl, h0, r0⟩ := trodAll_cons hA
  obtain ⟨v1, vs1, d1, ds1, p1, q1, rfl, rfl, rfl, h1, r1⟩ := trodAll_cons r0
  obtain ⟨rfl, rfl, rfl⟩ := trodAll_nil r1
  obtain rfl : args = #[v0, v1] := by cases args; simp_all
  obtain ⟨rfl, rfl⟩ := trodVars_none hV
  obtain ⟨a0, rfl, rfl, rfl, w0⟩ := open_int Tryd.underlying3 (hval 0 3 v0 rfl rfl) h0
  obtain ⟨a1, rfl, rfl, rfl, w1⟩ := open_int Tryd.underlying3 (hval 1 3 v1 rfl rfl) h1
  clear hT0 hval0
  refine (DeltaSteps_walk W hT a0 (wf_i64 w0).1 (wf_i64 w0).2 a1 (wf_i64 w1).1 (wf_i64 w1).2).mono fun e W' ⟨he, hb⟩ => ?_
  subst he
  exact ⟨_, rfl, law_post laidOut Tryd.underlying4 (by kernel_rfl) (by kernel_rfl) rfl hW' rfl hb⟩

theorem DeltaSteps_over : Rows.deltaStepsRow.holds Tryd.pinned (OpenSpec.ofChange Rows.deltaStepsSpec) :=
  OpenClaim.holds_of_wide 7 Tryd.f7 rfl rfl rfl rfl rfl rfl rfl ⟨rfl, rfl, rfl, rfl, rfl⟩ rfl rfl rfl rfl rfl (by kernel_rfl) Tryd.func7 (by kernel_rfl)
    (of_decide_eq_true (by kernel_rfl)) (by unfold Func.isWrapper; first | (rw [if_pos (by decide +kernel)]; kernel_rfl) | (rw [if_neg (by decide +kernel)]; exact ⟨rfl, rfl⟩))
    (fun os started H enc _ => DeltaSteps_lifted os started H enc)

theorem DeltaSteps_holds : Rows.DeltaStepsCardSaid :=
  Claim7.holds_tied_plain_at .later [] _ true _ _ DeltaSteps_over (fun _ h => by cases h) (by kernel_rfl) (fun _ h => by cases h) deltaSteps_row_tie rfl ⟨rfl, rfl⟩ (by kernel_rfl) rfl
    (fun f fn hf hfn => by
      obtain rfl : f = 7 := Option.some.inj ((show Tryd.prog.funcNamed "pilaster/pilasterlaw09.DeltaSteps" = some 7 by kernel_rfl).symm.trans hf) |>.symm
      obtain rfl : fn = Tryd.f7 := (Option.some.inj (Tryd.func7.symm.trans hfn)).symm
      exact ⟨by kernel_rfl, fun j t ht => stand_ins (by kernel_rfl) ht⟩)
    (by kernel_rfl)
#print axioms DeltaSteps_holds

end Go.Proofs.YtchgpgnipmmflaaDoor
