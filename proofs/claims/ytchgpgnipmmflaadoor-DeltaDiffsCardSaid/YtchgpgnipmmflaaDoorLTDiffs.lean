
/- The statement DeltaDiffs: for any numbers, any size, either way, the law answers true. No condition. -/

import Derived.Test.YtchgpgnipmmflaaDoorG3
namespace Go.Proofs.YtchgpgnipmmflaaDoor

open Go.RowKit Go.ChangeShapes Go.WideShapes Go.ChangeAt

set_option maxHeartbeats 4000000 in
set_option maxRecDepth 100000 in
theorem DeltaDiffs_walk (w : World) (ht : WTab w) (a b c : Int) (ha : inInt a) (hb : inInt b) (hc : inInt c) (U : Int) (h0 : 0 ≤ U) (h1 : U < 18446744073709551616) (f : Bool) :
    Calls Tryd.prog 3 #[.agg #[.int .i64 a, .int .i64 b, .int .i64 c], .int .u64 U, .bool f] w fun e w' => e = .returned (.bool true) ∧ Below w.heap.size w w' := by
  have HT := Lib.hid ht
  obtain ⟨u, d, o, hg⟩ : ∃ u d o, gdiff a b = (u, d, o) := ⟨_, _, _, rfl⟩
  obtain ⟨y, k, hs⟩ : ∃ y k, gstep c U.toNat f = (y, k) := ⟨_, _, rfl⟩
  have HD1 := Lib.hid (fun W => tdiff_any a b W ha hb)
  have HD2 := Lib.hid (fun W => rdiff9_any a b W ha hb)
  have HS1 := Lib.hid (fun W => tstep_any c U f W hc h0 h1)
  have HS2 := Lib.hid (fun W => rstep9_any c U f W hc h0 h1)
  rw [hg] at HD1 HD2
  rw [hs] at HS1 HS2
  clear ht ha hb hc h0 h1 hg hs
  have hb0 : Below w.heap.size w (w.alloc (.cells #[.int .i64 a, .int .i64 b, .int .i64 c] 22)) := (Below.refl _ _).alloc (Nat.le_refl _) _
  have HT := Lib.hid (WTab.below HT.out hb0 (WTab.lt HT.out))
  have HB := Lib.hid hb0
  have HR : Hid (Row (w.alloc (.cells #[.int .i64 a, .int .i64 b, .int .i64 c] 22)) w.heap.size 22 [.int .i64 a, .int .i64 b, .int .i64 c]) := Lib.hid (heap_alloc_new w _)
  clear hb0
  go_enter Tryd.func3, Tryd.ntmps3
  go_wp2_with fail
  refine (shown_any _ HT.out).mono ?_
  rintro e w1 ⟨rfl, hb1⟩
  have HT := Lib.hid (WTab.below HT.out hb1 (WTab.lt HT.out))
  have HR := Lib.hid (Row.below HR.out hb1 (Row.lt HR.out))
  have HB := Lib.hid (below_then HB.out hb1)
  clear hb1
  have hc0 := HR.out.cell 0
  have hc1 := HR.out.cell 1
  have hc2 := HR.out.cell 2
  go_wp2_with fail
  refine (HD1.out _).mono ?_
  rintro e w2 ⟨rfl, hb2⟩
  have HT := Lib.hid (WTab.below HT.out hb2 (WTab.lt HT.out))
  have HR := Lib.hid (Row.below HR.out hb2 (Row.lt HR.out))
  have HB := Lib.hid (below_then HB.out hb2)
  clear hb2 hc0 hc1 hc2
  have hc0 := HR.out.cell 0
  have hc1 := HR.out.cell 1
  have hc2 := HR.out.cell 2
  go_wp2_with fail
  refine (HD2.out _).mono ?_
  rintro e w' ⟨rfl, rfl⟩
  go_wp2_with fail
  refine (HS1.out _).mono ?_
  rintro e w3 ⟨rfl, hb3⟩
  have HT := Lib.hid (WTab.below HT.out hb3 (WTab.lt HT.out))
  have HR := Lib.hid (Row.below HR.out hb3 (Row.lt HR.out))
  have HB := Lib.hid (below_then HB.out hb3)
  clear hb3 hc0 hc1 hc2
  have hc0 := HR.out.cell 0
  have hc1 := HR.out.cell 1
  have hc2 := HR.out.cell 2
  go_wp2_with fail
  refine (HS2.out _).mono ?_
  rintro e w' ⟨rfl, rfl⟩
  go_wp2
  go_ret
  exact ⟨rfl, HB.out⟩

set_option maxRecDepth 100000 in
theorem DeltaDiffs_lifted (os : Os) (started : os.Started) (H : Type) (enc : TypeId × Value → H) :
    ReturnsInHanded {} Tryd.checked os 3 .any (fun w args => (Rows.deltaDiffsSpec.pre enc Tryd.prog Tryd.f3 [] false w args ∧ laidMetH Tryd.prog [("pilaster/widths.table", Rows.laid_pilaster_widths_table)] w) ∧ sizedMet enc Tryd.prog Tryd.f3 (OpenSpec.ofChange Rows.deltaDiffsSpec) false w args) (Rows.deltaDiffsSpec.post enc Tryd.prog Tryd.f3 false true false false) := by
  refine returnsInHanded_of_change_and (C := Tryd.checked) (X := fun w _ => laidMetH Tryd.prog [("pilaster/widths.table", Rows.laid_pilaster_widths_table)] w) (fun _ _ _ hh h => h.of_heap hh) own started (by kernel_rfl) Tryd.func3
    (ChangeSpec.witness_shaped (enc := enc) (C := Tryd.checked) (os := os) (X := fun w _ => laidMetH Tryd.prog [("pilaster/widths.table", Rows.laid_pilaster_widths_table)] w) false (World.doorLaid Tryd.prog 400 os) #[.agg #[.int .i64 0, .int .i64 0, .int .i64 0], .int .u64 0, .bool false] 8 rfl (World.shaped_of_RefB (by kernel_rfl) (by kernel_rfl)) (by kernel_rfl) (by kernel_rfl) (by kernel_rfl) (door_met os _)) ?_
  intro W base args ds gs before hval0 hW _ _ hL _
  have hT := tab_of hL
  clear hL
  have hval : ∀ (j : Nat) t v, Tryd.f3.params[j]? = some t → args[j]? = some v → Value.okWide Tryd.prog W .any base t v := hval0
  have hW' := hW
  obtain ⟨p, q, hT0, hV, rfl, hfz, hnd⟩ := hW
  have hA : DataW.TrodAll enc Tryd.prog W 0 (fun _ => true) true Tryd.f3.params.toList args.toList ds p := hT0
  rw [Tryd.params3] at hA hval
  obtain ⟨v0, vs0, d0, ds0, p0, q0, hargs, rfl, rfl, h0, r0⟩ := trodAll_cons hA
  obtain ⟨v1, vs1, d1, ds1, p1, q1, rfl, rfl, rfl, h1, r1⟩ := trodAll_cons r0
  obtain ⟨v2, vs2, d2, ds2, p2, q2, rfl, rfl, rfl, h2, r2⟩ := trodAll_cons r1
  obtain ⟨rfl, rfl, rfl⟩ := trodAll_nil r2
  obtain rfl : args = #[v0, v1, v2] := by cases args; simp_all
  obtain ⟨rfl, rfl⟩ := trodVars_none hV
  obtain ⟨a0, b0, c0, rfl, wa0, wb0, wc0⟩ := open_arr3 Tryd.underlying22 Tryd.underlying3 (by kernel_rfl) (by kernel_rfl) (hval 0 22 v0 rfl rfl) h0
  obtain ⟨a1, rfl, rfl, rfl, w1⟩ := open_int Tryd.underlying23 (hval 1 23 v1 rfl rfl) h1
  obtain ⟨a2, rfl, rfl, rfl⟩ := open_bool Tryd.underlying4 (hval 2 4 v2 rfl rfl) h2
  clear hT0 hval0
  refine (DeltaDiffs_walk W hT a0 b0 c0 (wf_i64 wa0) (wf_i64 wb0) (wf_i64 wc0) a1 (wf_u64 w1).1 (wf_u64 w1).2 a2).mono fun e W' ⟨he, hb⟩ => ?_
  subst he
  exact ⟨_, rfl, law_post laidOut Tryd.underlying4 (by kernel_rfl) (by kernel_rfl) rfl hW' rfl hb⟩

theorem DeltaDiffs_over : Rows.deltaDiffsRow.holds Tryd.pinned (OpenSpec.ofChange Rows.deltaDiffsSpec) :=
  OpenClaim.holds_of_wide 3 Tryd.f3 rfl rfl rfl rfl rfl rfl rfl ⟨rfl, rfl, rfl, rfl, rfl⟩ rfl rfl rfl rfl rfl (by kernel_rfl) Tryd.func3 (by kernel_rfl)
    (of_decide_eq_true (by kernel_rfl)) (by unfold Func.isWrapper; first | (rw [if_pos (by decide +kernel)]; kernel_rfl) | (rw [if_neg (by decide +kernel)]; exact ⟨rfl, rfl⟩))
    (fun os started H enc _ => DeltaDiffs_lifted os started H enc)

theorem DeltaDiffs_holds : Rows.DeltaDiffsCardSaid :=
  Claim7.holds_tied_plain_at .later [] _ true _ _ DeltaDiffs_over (fun _ h => by cases h) (by kernel_rfl) (fun _ h => by cases h) deltaDiffs_row_tie rfl ⟨rfl, rfl⟩ (by kernel_rfl) rfl
    (fun f fn hf hfn => by
      obtain rfl : f = 3 := Option.some.inj ((show Tryd.prog.funcNamed "pilaster/pilasterlaw09.DeltaDiffs" = some 3 by kernel_rfl).symm.trans hf) |>.symm
      obtain rfl : fn = Tryd.f3 := (Option.some.inj (Tryd.func3.symm.trans hfn)).symm
      exact ⟨by kernel_rfl, fun j t ht => stand_ins (by kernel_rfl) ht⟩)
    (by kernel_rfl)
#print axioms DeltaDiffs_holds

end Go.Proofs.YtchgpgnipmmflaaDoor
