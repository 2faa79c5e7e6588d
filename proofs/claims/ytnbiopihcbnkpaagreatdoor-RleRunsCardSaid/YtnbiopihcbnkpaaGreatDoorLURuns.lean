
/- The statement RleRuns: for any numbers, whether signed, the law answers true. No condition. -/

import Derived.Test.YtnbiopihcbnkpaaGreatDoorG7
namespace Go.Proofs.YtnbiopihcbnkpaaGreatDoor

open Go.RowKit Go.ChangeShapes Go.WideShapes Go.ChangeAt

set_option maxHeartbeats 4000000 in
set_option maxRecDepth 100000 in
theorem RleRuns_walk (w : World) (ht : WTab w) (v0 : Value) (l0 : List Int) (hI0 : IsV iv l0 v0 w) (hx0 : ∀ x ∈ l0, inInt x) (s : Bool) :
    Calls Tryz.prog 3 #[v0, .bool s] w fun e w' => e = .returned (.bool true) ∧ Below w.heap.size w w' := by
  have HT := Lib.hid ht
  have HI := Lib.hid hI0
  have HX := Lib.hid hx0
  clear ht hI0 hx0
  go_enter Tryz.func3, Tryz.ntmps3
  go_wp2_with fail
  refine (shown_any _ HT.out).mono ?_
  rintro e w1 ⟨rfl, hb1⟩
  have HT := Lib.hid (WTab.below HT.out hb1 (WTab.lt HT.out))
  have HI := Lib.hid (IsV.below HI.out hb1)
  have HB := Lib.hid hb1
  clear hb1
  go_wp2_with fail
  refine (few_600 HI.out).mono ?_
  rintro e w' ⟨⟨u, rfl, hu⟩, rfl⟩
  obtain ⟨l, hl⟩ : ∃ l, l = l0.take 600 := ⟨_, rfl⟩
  rw [← hl] at hu
  have HJL : Hid (l.length ≤ 600) := Lib.hid (by rw [hl, List.length_take]; omega)
  have HJ := Lib.hid hu
  have HXJ : Hid (∀ x ∈ l, inInt x) := Lib.hid (by rw [hl]; exact mem_take HX.out 600)
  clear hu hl
  go_wp2_with fail
  refine (urun_any l u s _ HT.out HJ.out HXJ.out (by have := HJL.out; omega)).mono ?_
  rintro e w2 ⟨a, rfl, ha, hb2⟩
  have HT := Lib.hid (WTab.below HT.out hb2 (WTab.lt HT.out))
  have HJ := Lib.hid (IsV.below HJ.out hb2)
  have HB := Lib.hid (below_then HB.out hb2)
  have HA := Lib.hid ha
  clear ha hb2
  go_wp2_with fail
  refine (rrun11_any l _ s _ HJ.out HXJ.out (by have := HJL.out; omega)).mono ?_
  rintro e w3 ⟨b, rfl, hb, hb3⟩
  have HT := Lib.hid (WTab.below HT.out hb3 (WTab.lt HT.out))
  have HJ := Lib.hid (IsV.below HJ.out hb3)
  have HA := Lib.hid (IsB.below HA.out hb3)
  have HB := Lib.hid (below_then HB.out hb3)
  have HBB := Lib.hid hb
  clear hb hb3
  have hz : ((urunE l s).2 == (urunE l s).2) = true := by simp
  have hc1 := textB HA.out
  have hc2 := textB HBB.out
  go_wp2_with fail
  refine (ucut_any l _ _ HJ.out (by have := HJL.out; omega)).mono ?_
  rintro e w4 ⟨rfl, hb4⟩
  have HT := Lib.hid (WTab.below HT.out hb4 (WTab.lt HT.out))
  have HJ := Lib.hid (IsV.below HJ.out hb4)
  have HA := Lib.hid (IsB.below HA.out hb4)
  have HBB := Lib.hid (IsB.below HBB.out hb4)
  have HB := Lib.hid (below_then HB.out hb4)
  clear hb4 hc1 hc2
  go_wp2_with fail
  refine (rcut11_any l _ _ HJ.out (by have := HJL.out; omega)).mono ?_
  rintro e w5 ⟨rfl, hb5⟩
  have HT := Lib.hid (WTab.below HT.out hb5 (WTab.lt HT.out))
  have HJ := Lib.hid (IsV.below HJ.out hb5)
  have HA := Lib.hid (IsB.below HA.out hb5)
  have HBB := Lib.hid (IsB.below HBB.out hb5)
  have HB := Lib.hid (below_then HB.out hb5)
  clear hb5
  have hz2 : ((ucut l : Int) == (ucut l : Int)) = true := by simp
  go_wp2
  go_ret
  exact ⟨rfl, HB.out⟩

set_option maxRecDepth 100000 in
theorem RleRuns_lifted (os : Os) (started : os.Started) (H : Type) (enc : TypeId × Value → H) :
    ReturnsInHanded {} Tryz.checked os 3 .any (fun w args => (Rows.rleRunsSpec.pre enc Tryz.prog Tryz.f3 [] false w args ∧ laidMetH Tryz.prog [("pilaster/widths.table", Rows.laid_pilaster_widths_table)] w) ∧ sizedMet enc Tryz.prog Tryz.f3 (OpenSpec.ofChange Rows.rleRunsSpec) false w args) (Rows.rleRunsSpec.post enc Tryz.prog Tryz.f3 false true false false) := by
  refine returnsInHanded_of_change_and (C := Tryz.checked) (X := fun w _ => laidMetH Tryz.prog [("pilaster/widths.table", Rows.laid_pilaster_widths_table)] w) (fun _ _ _ hh h => h.of_heap hh) own started (by kernel_rfl) Tryz.func3
    (ChangeSpec.witness_shaped (enc := enc) (C := Tryz.checked) (os := os) (X := fun w _ => laidMetH Tryz.prog [("pilaster/widths.table", Rows.laid_pilaster_widths_table)] w) false (World.doorLaid Tryz.prog 400 os) #[.slice none 0 0, .bool false] 8 rfl (World.shaped_of_RefB (by kernel_rfl) (by kernel_rfl)) (by kernel_rfl) (by kernel_rfl) (by kernel_rfl) (door_met os _)) ?_
  intro W base args ds gs before hval0 hW _ _ hL _
  have hT := tab_of hL
  clear hL
  have hval : ∀ (j : Nat) t v, Tryz.f3.params[j]? = some t → args[j]? = some v → Value.okWide Tryz.prog W .any base t v := hval0
  have hW' := hW
  obtain ⟨p, q, hT0, hV, rfl, hfz, hnd⟩ := hW
  have hA : DataW.TrodAll enc Tryz.prog W 0 (fun _ => true) true Tryz.f3.params.toList args.toList ds p := hT0
  rw [Tryz.params3] at hA hval
  obtain ⟨v0, vs0, d0, ds0, p0, q0, hargs, rfl, rfl, h0, r0⟩ := trodAll_cons hA
  obtain ⟨v1, vs1, d1, ds1, p1, q1, rfl, rfl, rfl, h1, r1⟩ := trodAll_cons r0
  obtain ⟨rfl, rfl, rfl⟩ := trodAll_nil r1
  obtain rfl : args = #[v0, v1] := by cases args; simp_all
  obtain ⟨rfl, rfl⟩ := trodVars_none hV
  have hlt0 : ∀ x ∈ p0, x.block < W.heap.size := fun x hx => hW'.lt x (by simp [hx])
  obtain ⟨l0, hl0, hx0⟩ := open_intsv Tryz.underlying22 Tryz.underlying3 (by kernel_rfl) (hval 0 22 v0 rfl rfl) h0 hlt0
  obtain ⟨a1, rfl, rfl, rfl⟩ := open_bool Tryz.underlying4 (hval 1 4 v1 rfl rfl) h1
  clear hT0 hval0
  refine (RleRuns_walk W hT v0 l0 hl0 hx0 a1).mono fun e W' ⟨he, hb⟩ => ?_
  subst he
  exact ⟨_, rfl, law_post laidOut Tryz.underlying4 (by kernel_rfl) (by kernel_rfl) rfl hW' rfl hb⟩

theorem RleRuns_over : Rows.rleRunsRow.holds Tryz.pinned (OpenSpec.ofChange Rows.rleRunsSpec) :=
  OpenClaim.holds_of_wide 3 Tryz.f3 rfl rfl rfl rfl rfl rfl rfl ⟨rfl, rfl, rfl, rfl, rfl⟩ rfl rfl rfl rfl rfl (by kernel_rfl) Tryz.func3 (by kernel_rfl)
    (of_decide_eq_true (by kernel_rfl)) (by unfold Func.isWrapper; first | (rw [if_pos (by decide +kernel)]; kernel_rfl) | (rw [if_neg (by decide +kernel)]; exact ⟨rfl, rfl⟩))
    (fun os started H enc _ => RleRuns_lifted os started H enc)

theorem RleRuns_holds : Rows.RleRunsCardSaid :=
  Claim7.holds_tied_plain_at .later [] _ true _ _ RleRuns_over (fun _ h => by cases h) (by kernel_rfl) (fun _ h => by cases h) rleRuns_row_tie rfl ⟨rfl, rfl⟩ (by kernel_rfl) rfl
    (fun f fn hf hfn => by
      obtain rfl : f = 3 := Option.some.inj ((show Tryz.prog.funcNamed "pilaster/pilasterlaw11.RleRuns" = some 3 by kernel_rfl).symm.trans hf) |>.symm
      obtain rfl : fn = Tryz.f3 := (Option.some.inj (Tryz.func3.symm.trans hfn)).symm
      exact ⟨by kernel_rfl, fun j t ht => stand_ins (by kernel_rfl) ht⟩)
    (by kernel_rfl)
#print axioms RleRuns_holds

end Go.Proofs.YtnbiopihcbnkpaaGreatDoor
