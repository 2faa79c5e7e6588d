
/- The statement PatchedPuts: for any numbers, any width, whether signed, the law answers true. No condition. -/

import Derived.Test.YtdcgkjcefbceeaaDoorG4
namespace Go.Proofs.YtdcgkjcefbceeaaDoor

open Go.RowKit Go.ChangeShapes Go.WideShapes Go.ChangeAt

set_option maxHeartbeats 4000000 in
set_option maxRecDepth 100000 in
theorem PatchedPuts_walk (w : World) (ht : WTab w) (v0 : Value) (l0 : List Int) (hI0 : IsV iv l0 v0 w) (hx0 : ∀ x ∈ l0, inInt x) (W : Int) (hW0 : -9223372036854775808 ≤ W) (hW1 : W ≤ 9223372036854775807) (s : Bool) :
    Calls Tryd.prog 3 #[v0, .int .i64 W, .bool s] w fun e w' => e = .returned (.bool true) ∧ Below w.heap.size w w' := by
  have HT := Lib.hid ht
  have HI := Lib.hid hI0
  have HX := Lib.hid hx0
  have HWI : Hid (inInt W) := Lib.hid ⟨hW0, hW1⟩
  clear ht hI0 hx0
  go_enter Tryd.func3, Tryd.ntmps3
  go_wp2_with fail
  refine (shown_any _ HT.out).mono ?_
  rintro e w1 ⟨rfl, hb1⟩
  have HT := Lib.hid (WTab.below HT.out hb1 (WTab.lt HT.out))
  have HI := Lib.hid (IsV.below HI.out hb1)
  have HB := Lib.hid hb1
  clear hb1
  go_wp2_with fail
  refine (few_is HI.out).mono ?_
  rintro e w' ⟨⟨u, rfl, hu⟩, rfl⟩
  obtain ⟨l, hl⟩ : ∃ l, l = l0.take 600 := ⟨_, rfl⟩
  rw [← hl] at hu
  have HJL : Hid (l.length ≤ 600) := Lib.hid (by rw [hl, List.length_take]; omega)
  have HJ := Lib.hid hu
  have HXJ : Hid (∀ x ∈ l, inInt x) := Lib.hid (by rw [hl]; exact mem_take HX.out 600)
  clear hu hl
  obtain ⟨Ac, nc, cc, rfl⟩ := HJ.out.shape
  obtain ⟨hnc2, hA2, -, -, hlies2⟩ := HJ.out.parts
  have hnb2 : nc ≤ 1000 := by have := HJL.out; omega
  have HM2 := Lib.hid (show (l.map iv).length = nc by rw [List.length_map]; exact hnc2)
  have HNC2 := Lib.hid hnc2
  have hown2 := own_made w1 3
  have hbA2 : Below w1.heap.size w1 (w1.alloc (.cells #[] 3)) := (Below.refl _ _).alloc (Nat.le_refl _) _
  have hlA2 := hlies2.below hbA2
  have hzz2 := hbA2.size
  clear hlies2 hnc2
  go_wp2_with (at_builtin; refine wpList_join elemI rfl _ _ rfl w1.heap.size _ _ _ _ _ _ (l.map iv) w1 rfl rfl hA2 HM2.out hlA2 (iv_one l) hown2 hbA2 hzz2 (by omega) (by omega) ?_)
  intro own w2 hown2' hb2 _ _
  have HO := Lib.hid (show IsV iv l own w2 from isV_own (by simpa using hown2'))
  have HT := Lib.hid (WTab.below HT.out hb2 (WTab.lt HT.out))
  have HJ := Lib.hid (IsV.below HJ.out hb2)
  have HB := Lib.hid (below_then HB.out hb2)
  clear hown2 hown2' hbA2 hlA2 hzz2 hb2 hA2
  go_wp2_with fail
  refine (pput_any l own W s _ HT.out HO.out HXJ.out (by have := HJL.out; omega) HWI.out).mono ?_
  rintro e w3 ⟨a, rfl, ha, hb3⟩
  have HT := Lib.hid (WTab.below HT.out hb3 (WTab.lt HT.out))
  have HJ := Lib.hid (IsV.below HJ.out hb3)
  have HO := Lib.hid (IsV.below HO.out hb3)
  have HB := Lib.hid (below_then HB.out hb3)
  have HA := Lib.hid ha
  clear ha hb3
  go_wp2_with fail
  refine (rput10_any l _ W s _ HJ.out HXJ.out (by have := HJL.out; omega)).mono ?_
  rintro e w4 ⟨b, rfl, hb, hb4⟩
  have HT := Lib.hid (WTab.below HT.out hb4 (WTab.lt HT.out))
  have HJ := Lib.hid (IsV.below HJ.out hb4)
  have HO := Lib.hid (IsV.below HO.out hb4)
  have HA := Lib.hid (IsB.below HA.out hb4)
  have HB := Lib.hid (below_then HB.out hb4)
  have HBB := Lib.hid hb
  clear hb hb4
  go_wp2_with fail
  refine (same8_is HO.out HJ.out (by have := HJL.out; omega) (by have := HJL.out; omega)).mono ?_
  rintro e w5 ⟨rfl, hb5⟩
  have HT := Lib.hid (WTab.below HT.out hb5 (WTab.lt HT.out))
  have HJ := Lib.hid (IsV.below HJ.out hb5)
  have HO := Lib.hid (IsV.below HO.out hb5)
  have HA := Lib.hid (IsB.below HA.out hb5)
  have HBB := Lib.hid (IsB.below HBB.out hb5)
  have HB := Lib.hid (below_then HB.out hb5)
  clear hb5
  have hz : ((pputE l W s).2 == (pputE l W s).2) = true := by simp
  have hz2 : (l == l) = true := by simp
  have hc1 := textB HA.out
  have hc2 := textB HBB.out
  go_wp2
  go_ret
  exact ⟨rfl, HB.out⟩

set_option maxRecDepth 100000 in
theorem PatchedPuts_lifted (os : Os) (started : os.Started) (H : Type) (enc : TypeId × Value → H) :
    ReturnsInHanded {} Tryd.checked os 3 .any (fun w args => (Rows.patchedPutsSpec.pre enc Tryd.prog Tryd.f3 [] false w args ∧ laidMetH Tryd.prog [("pilaster/widths.table", Rows.laid_pilaster_widths_table)] w) ∧ sizedMet enc Tryd.prog Tryd.f3 (OpenSpec.ofChange Rows.patchedPutsSpec) false w args) (Rows.patchedPutsSpec.post enc Tryd.prog Tryd.f3 false true false false) := by
  refine returnsInHanded_of_change_and (C := Tryd.checked) (X := fun w _ => laidMetH Tryd.prog [("pilaster/widths.table", Rows.laid_pilaster_widths_table)] w) (fun _ _ _ hh h => h.of_heap hh) own started (by kernel_rfl) Tryd.func3
    (ChangeSpec.witness_shaped (enc := enc) (C := Tryd.checked) (os := os) (X := fun w _ => laidMetH Tryd.prog [("pilaster/widths.table", Rows.laid_pilaster_widths_table)] w) false (World.doorLaid Tryd.prog 400 os) #[.slice none 0 0, .int .i64 0, .bool false] 8 rfl (World.shaped_of_RefB (by kernel_rfl) (by kernel_rfl)) (by kernel_rfl) (by kernel_rfl) (by kernel_rfl) (door_met os _)) ?_
  intro W base args ds gs before hval0 hW _ _ hL _
  have hT := tab_of hL
  clear hL
  have hval : ∀ (j : Nat) t v, Tryd.f3.params[j]? = some t → args[j]? = some v → Value.okWide Tryd.prog W .any base t v := hval0
  have hW' := hW
  obtain ⟨p, q, hT0, hV, rfl, hfz, hnd⟩ := hW
  have hA : DataW.TrodAll enc Tryd.prog W 0 (fun _ => true) true Tryd.f3.params.toList args.toList ds p := hT0
  rw [Tryd.params3] at hA hval
  obtain ⟨v0, vs0, d0, ds0, p0, q0, hargs, rfl, rfl, h0, r0⟩ := trodAll_cons hA
  obtain ⟨v1, vs1, d1, ds1, p1, q1, rfl, rfl, rfl, h1, r1⟩ := trodAll_cons r0
  obtain ⟨v2, vs2, d2, ds2, p2, q2, rfl, rfl, rfl, h2, r2⟩ := trodAll_cons r1
  obtain ⟨rfl, rfl, rfl⟩ := trodAll_nil r2
  obtain rfl : args = #[v0, v1, v2] := by cases args; simp_all
  obtain ⟨rfl, rfl⟩ := trodVars_none hV
  have hlt0 : ∀ x ∈ p0, x.block < W.heap.size := fun x hx => hW'.lt x (by simp [hx])
  obtain ⟨l0, hl0, hx0⟩ := open_intsv Tryd.underlying22 Tryd.underlying3 (by kernel_rfl) (hval 0 22 v0 rfl rfl) h0 hlt0
  obtain ⟨a1, rfl, rfl, rfl, w1⟩ := open_int Tryd.underlying3 (hval 1 3 v1 rfl rfl) h1
  obtain ⟨a2, rfl, rfl, rfl⟩ := open_bool Tryd.underlying4 (hval 2 4 v2 rfl rfl) h2
  clear hT0 hval0
  refine (PatchedPuts_walk W hT v0 l0 hl0 hx0 a1 (wf_i64 w1).1 (wf_i64 w1).2 a2).mono fun e W' ⟨he, hb⟩ => ?_
  subst he
  exact ⟨_, rfl, law_post laidOut Tryd.underlying4 (by kernel_rfl) (by kernel_rfl) rfl hW' rfl hb⟩

theorem PatchedPuts_over : Rows.patchedPutsRow.holds Tryd.pinned (OpenSpec.ofChange Rows.patchedPutsSpec) :=
  OpenClaim.holds_of_wide 3 Tryd.f3 rfl rfl rfl rfl rfl rfl rfl ⟨rfl, rfl, rfl, rfl, rfl⟩ rfl rfl rfl rfl rfl (by kernel_rfl) Tryd.func3 (by kernel_rfl)
    (of_decide_eq_true (by kernel_rfl)) (by unfold Func.isWrapper; first | (rw [if_pos (by decide +kernel)]; kernel_rfl) | (rw [if_neg (by decide +kernel)]; exact ⟨rfl, rfl⟩))
    (fun os started H enc _ => PatchedPuts_lifted os started H enc)

theorem PatchedPuts_holds : Rows.PatchedPutsCardSaid :=
  Claim7.holds_tied_plain_at .later [] _ true _ _ PatchedPuts_over (fun _ h => by cases h) (by kernel_rfl) (fun _ h => by cases h) patchedPuts_row_tie rfl ⟨rfl, rfl⟩ (by kernel_rfl) rfl
    (fun f fn hf hfn => by
      obtain rfl : f = 3 := Option.some.inj ((show Tryd.prog.funcNamed "pilaster/pilasterlaw10.PatchedPuts" = some 3 by kernel_rfl).symm.trans hf) |>.symm
      obtain rfl : fn = Tryd.f3 := (Option.some.inj (Tryd.func3.symm.trans hfn)).symm
      exact ⟨by kernel_rfl, fun j t ht => stand_ins (by kernel_rfl) ht⟩)
    (by kernel_rfl)
#print axioms PatchedPuts_holds

end Go.Proofs.YtdcgkjcefbceeaaDoor
