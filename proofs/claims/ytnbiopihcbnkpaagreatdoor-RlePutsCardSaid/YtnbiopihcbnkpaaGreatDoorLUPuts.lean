
/- The statement RlePuts: for any numbers, whether signed, the law answers true. No condition. -/

import Derived.Test.YtnbiopihcbnkpaaGreatDoorG7
namespace Go.Proofs.YtnbiopihcbnkpaaGreatDoor

open Go.RowKit Go.ChangeShapes Go.WideShapes Go.ChangeAt

set_option maxHeartbeats 4000000 in
set_option maxRecDepth 100000 in
theorem RlePuts_walk (w : World) (ht : WTab w) (v0 : Value) (l0 : List Int) (hI0 : IsV iv l0 v0 w) (hx0 : ∀ x ∈ l0, inInt x) (s : Bool) :
    Calls Tryz.prog 4 #[v0, .bool s] w fun e w' => e = .returned (.bool true) ∧ Below w.heap.size w w' := by
  have HT := Lib.hid ht
  have HI := Lib.hid hI0
  have HX := Lib.hid hx0
  clear ht hI0 hx0
  go_enter Tryz.func4, Tryz.ntmps4
  go_wp2_with fail
  refine (shown_any _ HT.out).mono ?_
  rintro e w1 ⟨rfl, hb1⟩
  have HT := Lib.hid (WTab.below HT.out hb1 (WTab.lt HT.out))
  have HI := Lib.hid (IsV.below HI.out hb1)
  have HB := Lib.hid hb1
  clear hb1
  go_wp2_with fail
  refine (few_1500 HI.out).mono ?_
  rintro e w' ⟨⟨u, rfl, hu⟩, rfl⟩
  obtain ⟨l, hl⟩ : ∃ l, l = l0.take 1500 := ⟨_, rfl⟩
  rw [← hl] at hu
  have HJL : Hid (l.length ≤ 1500) := Lib.hid (by rw [hl, List.length_take]; omega)
  have HJ := Lib.hid hu
  have HXJ : Hid (∀ x ∈ l, inInt x) := Lib.hid (by rw [hl]; exact mem_take HX.out 1500)
  clear hu hl
  obtain ⟨Ac, nc, cc, rfl⟩ := HJ.out.shape
  obtain ⟨hnc2, hA2, -, -, hlies2⟩ := HJ.out.parts
  have hnb2 : nc ≤ 2000 := by have := HJL.out; omega
  have HM2 := Lib.hid (show (l.map iv).length = nc by rw [List.length_map]; exact hnc2)
  have HNC2 := Lib.hid hnc2
  have hown2 := own_made w1 3
  have hbA2 : Below w1.heap.size w1 (w1.alloc (.cells #[] 3)) := (Below.refl _ _).alloc (Nat.le_refl _) _
  have hlA2 := hlies2.below hbA2
  have hzz2 := hbA2.size
  clear hlies2 hnc2
  go_wp2_with (at_builtin; refine wpList_join elemI rfl _ _ rfl w1.heap.size _ _ _ _ _ _ (l.map iv) w1 rfl rfl hA2 HM2.out hlA2 (iv_one l) hown2 hbA2 hzz2 (by omega) (by omega) ?_)
  intro own w2 hown2' hb2 _ _
  have HO := Lib.hid (show IsV iv l own w2 from isV_own (by simpa using hown2'))
  have HT := Lib.hid (WTab.below HT.out hb2 (WTab.lt HT.out))
  have HJ := Lib.hid (IsV.below HJ.out hb2)
  have HB := Lib.hid (below_then HB.out hb2)
  clear hown2 hown2' hbA2 hlA2 hzz2 hb2 hA2
  go_wp2_with fail
  refine (uput_any l own s _ HT.out HO.out HXJ.out (by have := HJL.out; omega)).mono ?_
  rintro e w3 ⟨a, rfl, ha, hb3⟩
  have HT := Lib.hid (WTab.below HT.out hb3 (WTab.lt HT.out))
  have HJ := Lib.hid (IsV.below HJ.out hb3)
  have HO := Lib.hid (IsV.below HO.out hb3)
  have HB := Lib.hid (below_then HB.out hb3)
  have HA := Lib.hid ha
  clear ha hb3
  go_wp2_with fail
  refine (rput11_any l _ s _ HJ.out HXJ.out).mono ?_
  rintro e w4 ⟨b, rfl, hb, hb4⟩
  have HT := Lib.hid (WTab.below HT.out hb4 (WTab.lt HT.out))
  have HJ := Lib.hid (IsV.below HJ.out hb4)
  have HO := Lib.hid (IsV.below HO.out hb4)
  have HA := Lib.hid (IsB.below HA.out hb4)
  have HB := Lib.hid (below_then HB.out hb4)
  have HBB := Lib.hid hb
  clear hb hb4
  go_wp2_with fail
  refine (same8_is HO.out HJ.out (by have := HJL.out; omega) (by have := HJL.out; omega)).mono ?_
  rintro e w5 ⟨rfl, hb5⟩
  have HT := Lib.hid (WTab.below HT.out hb5 (WTab.lt HT.out))
  have HJ := Lib.hid (IsV.below HJ.out hb5)
  have HO := Lib.hid (IsV.below HO.out hb5)
  have HA := Lib.hid (IsB.below HA.out hb5)
  have HBB := Lib.hid (IsB.below HBB.out hb5)
  have HB := Lib.hid (below_then HB.out hb5)
  clear hb5
  have hz : ((uputE l s).2 == (uputE l s).2) = true := by simp
  have hz2 : (l == l) = true := by simp
  have hc1 := textB HA.out
  have hc2 := textB HBB.out
  go_wp2
  go_ret
  exact ⟨rfl, HB.out⟩

set_option maxRecDepth 100000 in
theorem RlePuts_lifted (os : Os) (started : os.Started) (H : Type) (enc : TypeId × Value → H) :
    ReturnsInHanded {} Tryz.checked os 4 .any (fun w args => (Rows.rlePutsSpec.pre enc Tryz.prog Tryz.f4 [] false w args ∧ laidMetH Tryz.prog [("pilaster/widths.table", Rows.laid_pilaster_widths_table)] w) ∧ sizedMet enc Tryz.prog Tryz.f4 (OpenSpec.ofChange Rows.rlePutsSpec) false w args) (Rows.rlePutsSpec.post enc Tryz.prog Tryz.f4 false true false false) := by
  refine returnsInHanded_of_change_and (C := Tryz.checked) (X := fun w _ => laidMetH Tryz.prog [("pilaster/widths.table", Rows.laid_pilaster_widths_table)] w) (fun _ _ _ hh h => h.of_heap hh) own started (by kernel_rfl) Tryz.func4
    (ChangeSpec.witness_shaped (enc := enc) (C := Tryz.checked) (os := os) (X := fun w _ => laidMetH Tryz.prog [("pilaster/widths.table", Rows.laid_pilaster_widths_table)] w) false (World.doorLaid Tryz.prog 400 os) #[.slice none 0 0, .bool false] 8 rfl (World.shaped_of_RefB (by kernel_rfl) (by kernel_rfl)) (by kernel_rfl) (by kernel_rfl) (by kernel_rfl) (door_met os _)) ?_
  intro W base args ds gs before hval0 hW _ _ hL _
  have hT := tab_of hL
  clear hL
  have hval : ∀ (j : Nat) t v, Tryz.f4.params[j]? = some t → args[j]? = some v → Value.okWide Tryz.prog W .any base t v := hval0
  have hW' := hW
  obtain ⟨p, q, hT0, hV, rfl, hfz, hnd⟩ := hW
  have hA : DataW.TrodAll enc Tryz.prog W 0 (fun _ => true) true Tryz.f4.params.toList args.toList ds p := hT0
  rw [Tryz.params4] at hA hval
  obtain ⟨v0, vs0, d0, ds0, p0, q0, hargs, rfl, rfl, h0, r0⟩ := trodAll_cons hA
  obtain ⟨v1, vs1, d1, ds1, p1, q1, rfl, rfl, rfl, h1, r1⟩ := trodAll_cons r0
  obtain ⟨rfl, rfl, rfl⟩ := trodAll_nil r1
  obtain rfl : args = #[v0, v1] := by cases args; simp_all
  obtain ⟨rfl, rfl⟩ := trodVars_none hV
  have hlt0 : ∀ x ∈ p0, x.block < W.heap.size := fun x hx => hW'.lt x (by simp [hx])
  obtain ⟨l0, hl0, hx0⟩ := open_intsv Tryz.underlying22 Tryz.underlying3 (by kernel_rfl) (hval 0 22 v0 rfl rfl) h0 hlt0
  obtain ⟨a1, rfl, rfl, rfl⟩ := open_bool Tryz.underlying4 (hval 1 4 v1 rfl rfl) h1
  clear hT0 hval0
  refine (RlePuts_walk W hT v0 l0 hl0 hx0 a1).mono fun e W' ⟨he, hb⟩ => ?_
  subst he
  exact ⟨_, rfl, law_post laidOut Tryz.underlying4 (by kernel_rfl) (by kernel_rfl) rfl hW' rfl hb⟩

theorem RlePuts_over : Rows.rlePutsRow.holds Tryz.pinned (OpenSpec.ofChange Rows.rlePutsSpec) :=
  OpenClaim.holds_of_wide 4 Tryz.f4 rfl rfl rfl rfl rfl rfl rfl ⟨rfl, rfl, rfl, rfl, rfl⟩ rfl rfl rfl rfl rfl (by kernel_rfl) Tryz.func4 (by kernel_rfl)
    (of_decide_eq_true (by kernel_rfl)) (by unfold Func.isWrapper; first | (rw [if_pos (by decide +kernel)]; kernel_rfl) | (rw [if_neg (by decide +kernel)]; exact ⟨rfl, rfl⟩))
    (fun os started H enc _ => RlePuts_lifted os started H enc)

theorem RlePuts_holds : Rows.RlePutsCardSaid :=
  Claim7.holds_tied_plain_at .later [] _ true _ _ RlePuts_over (fun _ h => by cases h) (by kernel_rfl) (fun _ h => by cases h) rlePuts_row_tie rfl ⟨rfl, rfl⟩ (by kernel_rfl) rfl
    (fun f fn hf hfn => by
      obtain rfl : f = 4 := Option.some.inj ((show Tryz.prog.funcNamed "pilaster/pilasterlaw11.RlePuts" = some 4 by kernel_rfl).symm.trans hf) |>.symm
      obtain rfl : fn = Tryz.f4 := (Option.some.inj (Tryz.func4.symm.trans hfn)).symm
      exact ⟨by kernel_rfl, fun j t ht => stand_ins (by kernel_rfl) ht⟩)
    (by kernel_rfl)
#print axioms RlePuts_holds

end Go.Proofs.YtnbiopihcbnkpaaGreatDoor
