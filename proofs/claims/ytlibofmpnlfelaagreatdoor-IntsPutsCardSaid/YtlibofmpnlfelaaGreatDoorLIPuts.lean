
/- The statement IntsPuts: for any kind and any values the law answers true. No condition. -/

import Derived.StillTailTactics
import Derived.Test.YtlibofmpnlfelaaGreatDoorAG11
namespace Go.Proofs.YtlibofmpnlfelaaGreatDoor

open Go.RowKit Go.ChangeShapes Go.WideShapes Go.ChangeAt

set_option maxHeartbeats 4000000 in
set_option maxRecDepth 100000 in
theorem IntsPuts_walk (w : World) (hT : WTab w ∧ Tryz.U8 w) (k : Int) (_k0 : -9223372036854775808 ≤ k) (_k1 : k ≤ 9223372036854775807) (v0 : Value) (l0 : List CV) (hI0 : IsR kcells l0 v0 w) (hi0 : ∀ x ∈ l0, x.inInt) (hs0 : ∀ x ∈ l0, x.s.size ≤ maxLen) :
    Calls Tryz.prog 3 #[.int .i64 k, v0] w fun e w' => e = .returned (.bool true) ∧ Below w.heap.size w w' := by
  have HI := Lib.hid hI0
  have HT := Lib.hid hT.1
  have HU := Lib.hid hT.2
  have HX := Lib.hid hi0
  have HS := Lib.hid hs0
  have HK := Lib.hid (show inInt k from ⟨_k0, _k1⟩)
  clear hI0 hT hi0 hs0 _k0 _k1
  go_enter Tryz.func3, Tryz.ntmps3
  go_wp2_with fail
  refine (shown_any _ HT.out).mono ?_
  rintro e w1 ⟨rfl, hb1⟩
  have HI := Lib.hid (IsR.below HI.out hb1)
  have HT := Lib.hid (WTab.below HT.out hb1 (WTab.lt HT.out))
  have HU := Lib.hid (Utf8Tabs_below HU.out hb1)
  have HB := Lib.hid hb1
  clear hb1
  go_wp2_with fail
  refine (few_is HI.out).mono ?_
  rintro e w' ⟨⟨u, rfl, hu⟩, rfl⟩
  obtain ⟨l, hl⟩ : ∃ l, l = l0.take 600 := ⟨_, rfl⟩
  rw [← hl] at hu
  have HJL : Hid (l.length ≤ 600) := Lib.hid (by rw [hl, List.length_take]; omega)
  have HJ := Lib.hid hu
  have HXJ := Lib.hid (show ∀ x ∈ l, x.inInt from fun x hx => HX.out x (List.mem_of_mem_take (by rw [← hl]; exact hx)))
  have HSJ := Lib.hid (show ∀ x ∈ l, x.s.size ≤ maxLen from fun x hx => HS.out x (List.mem_of_mem_take (by rw [← hl]; exact hx)))
  clear hu hl
  go_wp2_with fail
  refine (iput_any k HK.out l u _ HT.out HJ.out HXJ.out HSJ.out (by have := HJL.out; omega)).mono ?_
  rintro e w2 ⟨a, rfl, ha, hb2⟩
  have HT := Lib.hid (WTab.below HT.out hb2 (WTab.lt HT.out))
  have HU := Lib.hid (Utf8Tabs_below HU.out hb2)
  have HJ := Lib.hid (IsR.below HJ.out hb2)
  have HB := Lib.hid (below_then HB.out hb2)
  have HA := Lib.hid ha
  clear ha hb2
  go_wp2_with fail
  refine (rputI_any k l u _ HU.out HJ.out HXJ.out HSJ.out (by have := HJL.out; omega)).mono ?_
  rintro e w3 ⟨b, rfl, hb, hb3⟩
  have HT := Lib.hid (WTab.below HT.out hb3 (WTab.lt HT.out))
  have HU := Lib.hid (Utf8Tabs_below HU.out hb3)
  have HJ := Lib.hid (IsR.below HJ.out hb3)
  have HA := Lib.hid (IsB.below HA.out hb3)
  have HB := Lib.hid (below_then HB.out hb3)
  have HBB := Lib.hid hb
  clear hb hb3
  have hz : ((iputE k l).2 == (iputE k l).2) = true := by simp
  have hc1 := textB HA.out
  have hc2 := textB HBB.out
  go_wp2
  go_ret
  exact ⟨rfl, HB.out⟩

set_option maxRecDepth 100000 in
theorem IntsPuts_lifted (os : Os) (started : os.Started) (H : Type) (enc : TypeId × Value → H) :
    ReturnsInHanded {} Tryz.checked os 3 .any (fun w args => (Rows.intsPutsSpec.pre enc Tryz.prog Tryz.f3 [] false w args ∧ laidMetH Tryz.prog [("pilaster/widths.table", Rows.laid_pilaster_widths_table), ("unicode/utf8.acceptRanges", Rows.laid_unicode_utf8_acceptRanges), ("unicode/utf8.first", Rows.laid_unicode_utf8_first)] w) ∧ sizedMet enc Tryz.prog Tryz.f3 (OpenSpec.ofChange Rows.intsPutsSpec) false w args) (Rows.intsPutsSpec.post enc Tryz.prog Tryz.f3 false true false false) := by
  refine returnsInHanded_of_change_and (C := Tryz.checked) (X := fun w _ => laidMetH Tryz.prog [("pilaster/widths.table", Rows.laid_pilaster_widths_table), ("unicode/utf8.acceptRanges", Rows.laid_unicode_utf8_acceptRanges), ("unicode/utf8.first", Rows.laid_unicode_utf8_first)] w) (fun _ _ _ hh h => h.of_heap hh) own started (by kernel_rfl) Tryz.func3
    (ChangeSpec.witness_shaped (enc := enc) (C := Tryz.checked) (os := os) (X := fun w _ => laidMetH Tryz.prog [("pilaster/widths.table", Rows.laid_pilaster_widths_table), ("unicode/utf8.acceptRanges", Rows.laid_unicode_utf8_acceptRanges), ("unicode/utf8.first", Rows.laid_unicode_utf8_first)] w) false (World.laidAll Tryz.prog os [("pilaster/widths.table", Rows.laid_pilaster_widths_table), ("unicode/utf8.acceptRanges", Rows.laid_unicode_utf8_acceptRanges), ("unicode/utf8.first", Rows.laid_unicode_utf8_first)]) #[.int .i64 0, .slice none 0 0] 8 (World.laidAll_os _ _ _) (World.shaped_of_ZipB (by kernel_rfl) (by kernel_rfl)) (by kernel_rfl) (by kernel_rfl) (by kernel_rfl) (by rw [MakeChecks.laidMetH_plain _ _ _ (by kernel_rfl)]; exact laidMet_laidAll _ (by kernel_rfl) (by kernel_rfl))) ?_
  intro W base args ds gs before hval0 hW _ _ hL _
  have hT := iw_of hL
  clear hL
  have hval : ∀ (j : Nat) t v, Tryz.f3.params[j]? = some t → args[j]? = some v → Value.okWide Tryz.prog W .any base t v := hval0
  have hW' := hW
  obtain ⟨p, q, hT0, hV, rfl, hfz, hnd⟩ := hW
  have hA : DataW.TrodAll enc Tryz.prog W 0 (fun _ => true) true Tryz.f3.params.toList args.toList ds p := hT0
  rw [Tryz.params3] at hA hval
  obtain ⟨v0, vs0, d0, ds0, p0, q0, hargs, rfl, rfl, h0, r0⟩ := trodAll_cons hA
  obtain ⟨v1, vs1, d1, ds1, p1, q1, rfl, rfl, rfl, h1, r1⟩ := trodAll_cons r0
  obtain ⟨rfl, rfl, rfl⟩ := trodAll_nil r1
  obtain rfl : args = #[v0, v1] := by cases args; simp_all
  obtain ⟨rfl, rfl⟩ := trodVars_none hV
  obtain ⟨a0, rfl, rfl, rfl, w0⟩ := open_int Tryz.underlying3 (hval 0 3 v0 rfl rfl) h0
  have hlt1 : ∀ x ∈ p1, x.block < W.heap.size := fun x hx => hW'.lt x (by simp [hx])
  obtain ⟨l1, hl1, hp1, hq1⟩ := open_vals (hval 1 22 v1 rfl rfl) h1 hlt1
  clear hT0 hval0
  refine (IntsPuts_walk W hT a0 (wf_i64 w0).1 (wf_i64 w0).2 v1 l1 hl1 hp1 hq1).mono fun e W' ⟨he, hb⟩ => ?_
  subst he
  exact ⟨_, rfl, law_post laidOut Tryz.underlying4 (by kernel_rfl) (by kernel_rfl) rfl hW' rfl hb⟩

theorem IntsPuts_over : Rows.intsPutsRow.holds Tryz.pinned (OpenSpec.ofChange Rows.intsPutsSpec) :=
  OpenClaim.holds_of_wide 3 Tryz.f3 rfl rfl rfl rfl rfl rfl rfl ⟨rfl, rfl, rfl, rfl, rfl⟩ rfl rfl rfl rfl rfl (by kernel_rfl) Tryz.func3 (by kernel_rfl)
    (of_decide_eq_true (by kernel_rfl)) (by unfold Func.isWrapper; first | (rw [if_pos (by decide +kernel)]; kernel_rfl) | (rw [if_neg (by decide +kernel)]; exact ⟨rfl, rfl⟩))
    (fun os started H enc _ => IntsPuts_lifted os started H enc)

theorem IntsPuts_holds : Rows.IntsPutsCardSaid :=
  Claim7.holds_tied_plain_at .later [] _ true _ _ IntsPuts_over (fun _ h => by cases h) (by kernel_rfl) (fun _ h => by cases h) intsPuts_row_tie rfl ⟨rfl, rfl⟩ (by kernel_rfl) rfl
    (fun f fn hf hfn => by
      obtain rfl : f = 3 := Option.some.inj ((show Tryz.prog.funcNamed "pilaster/pilasterlaw14.IntsPuts" = some 3 by kernel_rfl).symm.trans hf) |>.symm
      obtain rfl : fn = Tryz.f3 := (Option.some.inj (Tryz.func3.symm.trans hfn)).symm
      exact ⟨by kernel_rfl, fun j t ht => stand_ins (by kernel_rfl) ht⟩)
    (by kernel_rfl)
#print axioms IntsPuts_holds

end Go.Proofs.YtlibofmpnlfelaaGreatDoor
