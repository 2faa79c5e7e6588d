
/- The statement TextsPuts: for any texts the law answers true. No condition. -/

import Derived.StillTailTactics
import Derived.Test.YtblpkmmhmdpkjaaGreatDoorAG10
namespace Go.Proofs.YtblpkmmhmdpkjaaGreatDoor

open Go.RowKit Go.ChangeShapes Go.WideShapes Go.ChangeAt

set_option maxHeartbeats 4000000 in
set_option maxRecDepth 100000 in
theorem TextsPuts_walk (w : World) (ht : WTab w) (v0 : Value) (l0 : List ByteArray) (hI0 : IsV Value.string l0 v0 w) (hs0 : ∀ x ∈ l0, x.size ≤ maxLen) :
    Calls Tryz.prog 3 #[v0] w fun e w' => e = .returned (.bool true) ∧ Below w.heap.size w w' := by
  have HI := Lib.hid hI0
  have HT := Lib.hid ht
  have HS := Lib.hid hs0
  clear hI0 ht hs0
  go_enter Tryz.func3, Tryz.ntmps3
  go_wp2_with fail
  refine (shown_any _ HT.out).mono ?_
  rintro e w1 ⟨rfl, hb1⟩
  have HI := Lib.hid (IsV.below HI.out hb1)
  have HT := Lib.hid (WTab.below HT.out hb1 (WTab.lt HT.out))
  have HB := Lib.hid hb1
  clear hb1
  go_wp2_with fail
  refine (jfew_any l0 v0 _ HI.out HS.out).mono ?_
  rintro e w2 ⟨u, rfl, hu, hb2⟩
  have HI := Lib.hid (IsV.below HI.out hb2)
  have HT := Lib.hid (WTab.below HT.out hb2 (WTab.lt HT.out))
  have HB := Lib.hid (below_then HB.out hb2)
  have HO := Lib.hid hu
  clear hu hb2
  have HJ := Lib.hid HO.out.isV
  obtain ⟨l, hl⟩ : ∃ l, l = jfew l0 := ⟨_, rfl⟩
  rw [← hl] at HJ
  have HJL : Hid (l.length ≤ 300) := Lib.hid (by rw [hl]; exact jfew_len l0)
  have HJS : Hid (∀ s ∈ l, s.size ≤ 310) := Lib.hid (by rw [hl]; exact jfew_size)
  clear HO hl
  obtain ⟨C, y, hq⟩ : ∃ C y, jputE l = (C, y) := ⟨_, _, rfl⟩
  have HP := Lib.hid (fun X h1 h2 => jput_any l u X h1 h2 (by have := HJL.out; omega))
  have HR := Lib.hid (fun X h2 => rputJ_any l u X h2 (by have := HJL.out; omega))
  rw [hq] at HP HR
  have HCL : Hid (C.streams.length ≤ 1000000) := Lib.hid (by have h := jputE_many l; rw [hq] at h; exact h)
  clear hq
  go_wp2_with fail
  refine (HP.out _ HT.out HJ.out).mono ?_
  rintro e w3 ⟨va, rfl, ha, hb3⟩
  have HT := Lib.hid (WTab.below HT.out hb3 (WTab.lt HT.out))
  have HJ := Lib.hid (IsV.below HJ.out hb3)
  have HB := Lib.hid (below_then HB.out hb3)
  have HA := Lib.hid ha
  clear ha hb3
  obtain ⟨Aa, na, ca, rfl⟩ := IsCol.shape HA.out
  rw [show colv C (.slice Aa na ca) = .agg #[.int .i64 C.many, .int .i64 C.enc, .int .i64 C.texts, .slice Aa na ca] from rfl]
  obtain ⟨w4, hw4⟩ : ∃ w', w' = w3.alloc (.cells #[.int .i64 C.many, .int .i64 C.enc, .int .i64 C.texts, .slice Aa na ca] 27) := ⟨_, rfl⟩
  have hr4 : Row w4 w3.heap.size 27 [.int .i64 C.many, .int .i64 C.enc, .int .i64 C.texts, .slice Aa na ca] := by rw [hw4]; exact heap_alloc_new w3 _
  have hb4 : Below w3.heap.size w3 w4 := by rw [hw4]; exact (Below.refl _ _).alloc (Nat.le_refl _) _
  have HT := Lib.hid (WTab.below HT.out hb4 (WTab.lt HT.out))
  have HJ := Lib.hid (IsV.below HJ.out hb4)
  have HA := Lib.hid (IsCol.below HA.out hb4)
  have HB := Lib.hid (below_then HB.out hb4)
  have HRA := Lib.hid hr4
  clear hr4 hb4
  go_wp2_with fail
  rw [← hw4]
  clear hw4
  refine (HR.out _ HJ.out).mono ?_
  rintro e w5 ⟨vb, rfl, hb, hb5⟩
  have HT := Lib.hid (WTab.below HT.out hb5 (WTab.lt HT.out))
  have HJ := Lib.hid (IsV.below HJ.out hb5)
  have HA := Lib.hid (IsCol.below HA.out hb5)
  have HRA := Lib.hid (Row.below HRA.out hb5 (Row.lt HRA.out))
  have HB := Lib.hid (below_then HB.out hb5)
  have HB2 := Lib.hid hb
  clear hb hb5
  obtain ⟨Ab, nb, cb, rfl⟩ := IsCol.shape HB2.out
  rw [show colv C (.slice Ab nb cb) = .agg #[.int .i64 C.many, .int .i64 C.enc, .int .i64 C.texts, .slice Ab nb cb] from rfl]
  obtain ⟨w6, hw6⟩ : ∃ w', w' = w5.alloc (.cells #[.int .i64 C.many, .int .i64 C.enc, .int .i64 C.texts, .slice Ab nb cb] 27) := ⟨_, rfl⟩
  have hr6 : Row w6 w5.heap.size 27 [.int .i64 C.many, .int .i64 C.enc, .int .i64 C.texts, .slice Ab nb cb] := by rw [hw6]; exact heap_alloc_new w5 _
  have hb6 : Below w5.heap.size w5 w6 := by rw [hw6]; exact (Below.refl _ _).alloc (Nat.le_refl _) _
  have HT := Lib.hid (WTab.below HT.out hb6 (WTab.lt HT.out))
  have HJ := Lib.hid (IsV.below HJ.out hb6)
  have HA := Lib.hid (IsCol.below HA.out hb6)
  have HRA := Lib.hid (Row.below HRA.out hb6 (Row.lt HRA.out))
  have HB2 := Lib.hid (IsCol.below HB2.out hb6)
  have HB := Lib.hid (below_then HB.out hb6)
  have HRB := Lib.hid hr6
  clear hr6 hb6
  have cHRA0 := HRA.out.cell 0
  have cHRA1 := HRA.out.cell 1
  have cHRA2 := HRA.out.cell 2
  have cHRA3 := HRA.out.cell 3
  have cHRB0 := HRB.out.cell 0
  have cHRB1 := HRB.out.cell 1
  have cHRB2 := HRB.out.cell 2
  have cHRB3 := HRB.out.cell 3
  simp only [List.getElem?_cons_zero, List.getElem?_cons_succ] at cHRA0 cHRA1 cHRA2 cHRA3 cHRB0 cHRB1 cHRB2 cHRB3
  rw [hw6] at cHRA0 cHRA1 cHRA2 cHRA3 cHRB0 cHRB1 cHRB2 cHRB3
  go_wp2_with fail
  rw [← hw6]
  clear hw6 cHRA0 cHRA1 cHRA2 cHRA3 cHRB0 cHRB1 cHRB2 cHRB3
  refine (samecol_any C _ _ _ HA.out HB2.out HCL.out).mono ?_
  rintro e w7 ⟨rfl, hb7⟩
  have HT := Lib.hid (WTab.below HT.out hb7 (WTab.lt HT.out))
  have HJ := Lib.hid (IsV.below HJ.out hb7)
  have HA := Lib.hid (IsCol.below HA.out hb7)
  have HRA := Lib.hid (Row.below HRA.out hb7 (Row.lt HRA.out))
  have HB2 := Lib.hid (IsCol.below HB2.out hb7)
  have HRB := Lib.hid (Row.below HRB.out hb7 (Row.lt HRB.out))
  have HB := Lib.hid (below_then HB.out hb7)
  clear hb7
  go_wp2_with fail
  refine (jwords_own l u _ HJ.out (fun s hs => by have := HJS.out s hs; unfold maxLen; omega) (by have := HJL.out; omega)).mono ?_
  rintro e w8 ⟨vw, rfl, hw, hb8⟩
  have HT := Lib.hid (WTab.below HT.out hb8 (WTab.lt HT.out))
  have HJ := Lib.hid (IsV.below HJ.out hb8)
  have HB := Lib.hid (below_then HB.out hb8)
  have HO1 := Lib.hid hw
  clear hw hb8
  go_wp2_with fail
  refine (rwords_any l u _ HJ.out (by have := HJL.out; omega)).mono ?_
  rintro e w9 ⟨vx, rfl, hx, hb9⟩
  have HT := Lib.hid (WTab.below HT.out hb9 (WTab.lt HT.out))
  have HJ := Lib.hid (IsV.below HJ.out hb9)
  have HO1 := Lib.hid (OwnV.below HO1.out hb9)
  have HB := Lib.hid (below_then HB.out hb9)
  have HO2 := Lib.hid hx
  clear hx hb9
  go_wp2_with fail
  refine (sameS_any (jwords l) vw vx _ HO1.out.isV HO2.out.isV (by have h := jwords_len l; have := HJL.out; omega)).mono ?_
  rintro e w10 ⟨rfl, hb10⟩
  have HT := Lib.hid (WTab.below HT.out hb10 (WTab.lt HT.out))
  have HJ := Lib.hid (IsV.below HJ.out hb10)
  have HO1 := Lib.hid (OwnV.below HO1.out hb10)
  have HO2 := Lib.hid (OwnV.below HO2.out hb10)
  have HB := Lib.hid (below_then HB.out hb10)
  clear hb10
  have hz : (y == y) = true := by simp
  go_wp2
  go_ret
  exact ⟨rfl, HB.out⟩

set_option maxRecDepth 100000 in
theorem TextsPuts_lifted (os : Os) (started : os.Started) (H : Type) (enc : TypeId × Value → H) :
    ReturnsInHanded {} Tryz.checked os 3 .any (fun w args => (Rows.textsPutsSpec.pre enc Tryz.prog Tryz.f3 [] false w args ∧ laidMetH Tryz.prog [("pilaster/widths.table", Rows.laid_pilaster_widths_table)] w) ∧ sizedMet enc Tryz.prog Tryz.f3 (OpenSpec.ofChange Rows.textsPutsSpec) false w args) (Rows.textsPutsSpec.post enc Tryz.prog Tryz.f3 false true false false) := by
  refine returnsInHanded_of_change_and (C := Tryz.checked) (X := fun w _ => laidMetH Tryz.prog [("pilaster/widths.table", Rows.laid_pilaster_widths_table)] w) (fun _ _ _ hh h => h.of_heap hh) own started (by kernel_rfl) Tryz.func3
    (ChangeSpec.witness_shaped (enc := enc) (C := Tryz.checked) (os := os) (X := fun w _ => laidMetH Tryz.prog [("pilaster/widths.table", Rows.laid_pilaster_widths_table)] w) false (World.doorLaid Tryz.prog 400 os) #[.slice none 0 0] 8 rfl (World.shaped_of_RefB (by kernel_rfl) (by kernel_rfl)) (by kernel_rfl) (by kernel_rfl) (by kernel_rfl) (door_met os _)) ?_
  intro W base args ds gs before hval0 hW _ _ hL _
  have hT := tab_of hL
  clear hL
  have hval : ∀ (j : Nat) t v, Tryz.f3.params[j]? = some t → args[j]? = some v → Value.okWide Tryz.prog W .any base t v := hval0
  have hW' := hW
  obtain ⟨p, q, hT0, hV, rfl, hfz, hnd⟩ := hW
  have hA : DataW.TrodAll enc Tryz.prog W 0 (fun _ => true) true Tryz.f3.params.toList args.toList ds p := hT0
  rw [Tryz.params3] at hA hval
  obtain ⟨v0, vs0, d0, ds0, p0, q0, hargs, rfl, rfl, h0, r0⟩ := trodAll_cons hA
  obtain ⟨rfl, rfl, rfl⟩ := trodAll_nil r0
  obtain rfl : args = #[v0] := by cases args; simp_all
  obtain ⟨rfl, rfl⟩ := trodVars_none hV
  have hlt0 : ∀ x ∈ p0, x.block < W.heap.size := fun x hx => hW'.lt x (by simp [hx])
  obtain ⟨l0, hl0, hp0⟩ := open_texts (hval 0 22 v0 rfl rfl) h0 hlt0
  clear hT0 hval0
  refine (TextsPuts_walk W hT v0 l0 hl0 hp0).mono fun e W' ⟨he, hb⟩ => ?_
  subst he
  exact ⟨_, rfl, law_post laidOut Tryz.underlying4 (by kernel_rfl) (by kernel_rfl) rfl hW' rfl hb⟩

theorem TextsPuts_over : Rows.textsPutsRow.holds Tryz.pinned (OpenSpec.ofChange Rows.textsPutsSpec) :=
  OpenClaim.holds_of_wide 3 Tryz.f3 rfl rfl rfl rfl rfl rfl rfl ⟨rfl, rfl, rfl, rfl, rfl⟩ rfl rfl rfl rfl rfl (by kernel_rfl) Tryz.func3 (by kernel_rfl)
    (of_decide_eq_true (by kernel_rfl)) (by unfold Func.isWrapper; first | (rw [if_pos (by decide +kernel)]; kernel_rfl) | (rw [if_neg (by decide +kernel)]; exact ⟨rfl, rfl⟩))
    (fun os started H enc _ => TextsPuts_lifted os started H enc)

theorem TextsPuts_holds : Rows.TextsPutsCardSaid :=
  Claim7.holds_tied_plain_at .later [] _ true _ _ TextsPuts_over (fun _ h => by cases h) (by kernel_rfl) (fun _ h => by cases h) textsPuts_row_tie rfl ⟨rfl, rfl⟩ (by kernel_rfl) rfl
    (fun f fn hf hfn => by
      obtain rfl : f = 3 := Option.some.inj ((show Tryz.prog.funcNamed "pilaster/pilasterlaw15.TextsPuts" = some 3 by kernel_rfl).symm.trans hf) |>.symm
      obtain rfl : fn = Tryz.f3 := (Option.some.inj (Tryz.func3.symm.trans hfn)).symm
      exact ⟨by kernel_rfl, fun j t ht => stand_ins (by kernel_rfl) ht⟩)
    (by kernel_rfl)
#print axioms TextsPuts_holds

end Go.Proofs.YtblpkmmhmdpkjaaGreatDoor
