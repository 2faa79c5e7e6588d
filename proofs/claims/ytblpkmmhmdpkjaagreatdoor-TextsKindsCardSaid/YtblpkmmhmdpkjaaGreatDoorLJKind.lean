
/- The statement TextsKinds: for any texts the law answers true. No condition. -/

import Derived.StillTailTactics
import Derived.Test.YtblpkmmhmdpkjaaGreatDoorCG7
namespace Go.Proofs.YtblpkmmhmdpkjaaGreatDoor

open Go.RowKit Go.ChangeShapes Go.WideShapes Go.ChangeAt

set_option maxHeartbeats 4000000 in
set_option maxRecDepth 100000 in
theorem TextsKinds_walk (w : World) (ht : WTab w) (v0 : Value) (l0 : List ByteArray) (hI0 : IsV Value.string l0 v0 w) (hs0 : ∀ x ∈ l0, x.size ≤ maxLen) :
    Calls Tryz.prog 7 #[v0] w fun e w' => e = .returned (.bool true) ∧ Below w.heap.size w w' := by
  have HI := Lib.hid hI0
  have HT := Lib.hid ht
  have HS := Lib.hid hs0
  clear hI0 ht hs0
  go_enter Tryz.func7, Tryz.ntmps7
  go_wp2_with fail
  refine (shown_any _ HT.out).mono ?_
  rintro e w1 ⟨rfl, hb1⟩
  have HI := Lib.hid (IsV.below HI.out hb1)
  have HT := Lib.hid (WTab.below HT.out hb1 (WTab.lt HT.out))
  have HB := Lib.hid hb1
  clear hb1
  go_wp2_with fail
  refine (jfew_any l0 v0 _ HI.out HS.out).mono ?_
  rintro e w2 ⟨u, rfl, hu, hb2⟩
  have HI := Lib.hid (IsV.below HI.out hb2)
  have HT := Lib.hid (WTab.below HT.out hb2 (WTab.lt HT.out))
  have HB := Lib.hid (below_then HB.out hb2)
  have HO := Lib.hid hu
  clear hu hb2
  have HJ := Lib.hid HO.out.isV
  obtain ⟨l, hl⟩ : ∃ l, l = jfew l0 := ⟨_, rfl⟩
  rw [← hl] at HJ
  have HJL : Hid (l.length ≤ 300) := Lib.hid (by rw [hl]; exact jfew_len l0)
  have HJS : Hid (∀ s ∈ l, s.size ≤ 310) := Lib.hid (by rw [hl]; exact jfew_size)
  clear HO hl
  have HP := Lib.hid (fun X h1 h2 => jput_any l u X h1 h2 (by have := HJL.out; omega))
  go_wp2_with fail
  refine (jwords_own l u _ HJ.out (fun s hs => by have := HJS.out s hs; unfold maxLen; omega) (by have := HJL.out; omega)).mono ?_
  rintro e w3 ⟨vw, rfl, hw, hb3⟩
  have HT := Lib.hid (WTab.below HT.out hb3 (WTab.lt HT.out))
  have HJ := Lib.hid (IsV.below HJ.out hb3)
  have HB := Lib.hid (below_then HB.out hb3)
  have HO1 := Lib.hid hw
  clear hw hb3
  obtain ⟨Au, nu, cu, rfl⟩ := IsV.shape HJ.out
  have hnu : l.length = nu := (IsV.parts HJ.out).1
  have hwv := HO1.out.isV
  obtain ⟨Aw, nw, cw, rfl⟩ := hwv.shape
  have hnw : (jwords l).length = nw := hwv.parts.1
  have hnu3 : nu ≤ 300 := by have := HJL.out; omega
  have hnw3 : nw ≤ 300 := by have := jwords_len l; omega
  have HOR := jputE_or l
  rw [hnu, hnw] at HOR
  clear hwv hnu hnw
  rcases HOR with hq | ⟨hp, s0, s1, hq⟩ | ⟨hp, s0, s1, s2, hq⟩
  · rw [hq] at HP
    clear hq
    go_wp2_with fail
    refine (HP.out _ HT.out HJ.out).mono ?_
    rintro e w4 ⟨va, rfl, ha, hb4⟩
    have HT := Lib.hid (WTab.below HT.out hb4 (WTab.lt HT.out))
    have HJ := Lib.hid (IsV.below HJ.out hb4)
    have HO1 := Lib.hid (OwnV.below HO1.out hb4)
    have HB := Lib.hid (below_then HB.out hb4)
    have HA := Lib.hid ha
    clear ha hb4
    obtain ⟨C, hC⟩ : ∃ C : JC, C = jcBad := ⟨_, rfl⟩
    rw [← hC] at HA ⊢
    obtain ⟨Aa, na, ca, rfl⟩ := IsCol.shape HA.out
    rw [show colv C (.slice Aa na ca) = .agg #[.int .i64 C.many, .int .i64 C.enc, .int .i64 C.texts, .slice Aa na ca] from rfl]
    obtain ⟨w5, hw5⟩ : ∃ w', w' = w4.alloc (.cells #[.int .i64 C.many, .int .i64 C.enc, .int .i64 C.texts, .slice Aa na ca] 27) := ⟨_, rfl⟩
    have hr5 : Row w5 w4.heap.size 27 [.int .i64 C.many, .int .i64 C.enc, .int .i64 C.texts, .slice Aa na ca] := by rw [hw5]; exact heap_alloc_new w4 _
    have hb5 : Below w4.heap.size w4 w5 := by rw [hw5]; exact (Below.refl _ _).alloc (Nat.le_refl _) _
    have HT := Lib.hid (WTab.below HT.out hb5 (WTab.lt HT.out))
    have HJ := Lib.hid (IsV.below HJ.out hb5)
    have HO1 := Lib.hid (OwnV.below HO1.out hb5)
    have HA := Lib.hid (IsCol.below HA.out hb5)
    have HB := Lib.hid (below_then HB.out hb5)
    have HRA := Lib.hid hr5
    clear hr5 hb5
    have hna : na = 0 := by have h := IsCol.len HA.out; rw [hC] at h; exact h
    rw [hC] at HRA
    subst hna
    rw [hC]
    rw [hC] at hw5
    dsimp only [jcBad] at HRA ⊢
    dsimp only [jcBad] at hw5
    have cHRA0 := HRA.out.cell 0
    have cHRA1 := HRA.out.cell 1
    have cHRA2 := HRA.out.cell 2
    have cHRA3 := HRA.out.cell 3
    simp only [List.getElem?_cons_zero, List.getElem?_cons_succ] at cHRA0 cHRA1 cHRA2 cHRA3
    rw [hw5] at cHRA0 cHRA1 cHRA2 cHRA3
    clear HA
    go_wp2
    go_ret
    exact ⟨rfl, by rw [← hw5]; exact HB.out⟩
  · rw [hq] at HP
    clear hq
    have g1 : decide (2 * nw ≤ nu) = false := decide_eq_false (by omega)
    have g2 : decide (2 * (nw : Int) ≤ (nu : Int)) = false := decide_eq_false (by omega)
    clear hp
    go_wp2_with fail
    refine (HP.out _ HT.out HJ.out).mono ?_
    rintro e w4 ⟨va, rfl, ha, hb4⟩
    have HT := Lib.hid (WTab.below HT.out hb4 (WTab.lt HT.out))
    have HJ := Lib.hid (IsV.below HJ.out hb4)
    have HO1 := Lib.hid (OwnV.below HO1.out hb4)
    have HB := Lib.hid (below_then HB.out hb4)
    have HA := Lib.hid ha
    clear ha hb4
    obtain ⟨C, hC⟩ : ∃ C : JC, C = (⟨(nu : Int), 1, 0, [s0, s1]⟩ : JC) := ⟨_, rfl⟩
    rw [← hC] at HA ⊢
    obtain ⟨Aa, na, ca, rfl⟩ := IsCol.shape HA.out
    rw [show colv C (.slice Aa na ca) = .agg #[.int .i64 C.many, .int .i64 C.enc, .int .i64 C.texts, .slice Aa na ca] from rfl]
    obtain ⟨w5, hw5⟩ : ∃ w', w' = w4.alloc (.cells #[.int .i64 C.many, .int .i64 C.enc, .int .i64 C.texts, .slice Aa na ca] 27) := ⟨_, rfl⟩
    have hr5 : Row w5 w4.heap.size 27 [.int .i64 C.many, .int .i64 C.enc, .int .i64 C.texts, .slice Aa na ca] := by rw [hw5]; exact heap_alloc_new w4 _
    have hb5 : Below w4.heap.size w4 w5 := by rw [hw5]; exact (Below.refl _ _).alloc (Nat.le_refl _) _
    have HT := Lib.hid (WTab.below HT.out hb5 (WTab.lt HT.out))
    have HJ := Lib.hid (IsV.below HJ.out hb5)
    have HO1 := Lib.hid (OwnV.below HO1.out hb5)
    have HA := Lib.hid (IsCol.below HA.out hb5)
    have HB := Lib.hid (below_then HB.out hb5)
    have HRA := Lib.hid hr5
    clear hr5 hb5
    have hna : na = 2 := by have h := IsCol.len HA.out; rw [hC] at h; exact h
    rw [hC] at HRA
    subst hna
    rw [hC]
    rw [hC] at hw5
    dsimp only [jcBad] at HRA ⊢
    dsimp only [jcBad] at hw5
    have cHRA0 := HRA.out.cell 0
    have cHRA1 := HRA.out.cell 1
    have cHRA2 := HRA.out.cell 2
    have cHRA3 := HRA.out.cell 3
    simp only [List.getElem?_cons_zero, List.getElem?_cons_succ] at cHRA0 cHRA1 cHRA2 cHRA3
    rw [hw5] at cHRA0 cHRA1 cHRA2 cHRA3
    clear HA
    go_wp2
    go_ret
    exact ⟨rfl, by rw [← hw5]; exact HB.out⟩
  · rw [hq] at HP
    clear hq
    have g1 : decide (2 * nw ≤ nu) = true := decide_eq_true (by omega)
    have g2 : decide (2 * (nw : Int) ≤ (nu : Int)) = true := decide_eq_true (by omega)
    have g3 : ((nw : Int) == (nw : Int)) = true := by simp
    clear hp
    go_wp2_with fail
    refine (HP.out _ HT.out HJ.out).mono ?_
    rintro e w4 ⟨va, rfl, ha, hb4⟩
    have HT := Lib.hid (WTab.below HT.out hb4 (WTab.lt HT.out))
    have HJ := Lib.hid (IsV.below HJ.out hb4)
    have HO1 := Lib.hid (OwnV.below HO1.out hb4)
    have HB := Lib.hid (below_then HB.out hb4)
    have HA := Lib.hid ha
    clear ha hb4
    obtain ⟨C, hC⟩ : ∃ C : JC, C = (⟨(nu : Int), 2, (nw : Int), [s0, s1, s2]⟩ : JC) := ⟨_, rfl⟩
    rw [← hC] at HA ⊢
    obtain ⟨Aa, na, ca, rfl⟩ := IsCol.shape HA.out
    rw [show colv C (.slice Aa na ca) = .agg #[.int .i64 C.many, .int .i64 C.enc, .int .i64 C.texts, .slice Aa na ca] from rfl]
    obtain ⟨w5, hw5⟩ : ∃ w', w' = w4.alloc (.cells #[.int .i64 C.many, .int .i64 C.enc, .int .i64 C.texts, .slice Aa na ca] 27) := ⟨_, rfl⟩
    have hr5 : Row w5 w4.heap.size 27 [.int .i64 C.many, .int .i64 C.enc, .int .i64 C.texts, .slice Aa na ca] := by rw [hw5]; exact heap_alloc_new w4 _
    have hb5 : Below w4.heap.size w4 w5 := by rw [hw5]; exact (Below.refl _ _).alloc (Nat.le_refl _) _
    have HT := Lib.hid (WTab.below HT.out hb5 (WTab.lt HT.out))
    have HJ := Lib.hid (IsV.below HJ.out hb5)
    have HO1 := Lib.hid (OwnV.below HO1.out hb5)
    have HA := Lib.hid (IsCol.below HA.out hb5)
    have HB := Lib.hid (below_then HB.out hb5)
    have HRA := Lib.hid hr5
    clear hr5 hb5
    have hna : na = 3 := by have h := IsCol.len HA.out; rw [hC] at h; exact h
    rw [hC] at HRA
    subst hna
    rw [hC]
    rw [hC] at hw5
    dsimp only [jcBad] at HRA ⊢
    dsimp only [jcBad] at hw5
    have cHRA0 := HRA.out.cell 0
    have cHRA1 := HRA.out.cell 1
    have cHRA2 := HRA.out.cell 2
    have cHRA3 := HRA.out.cell 3
    simp only [List.getElem?_cons_zero, List.getElem?_cons_succ] at cHRA0 cHRA1 cHRA2 cHRA3
    rw [hw5] at cHRA0 cHRA1 cHRA2 cHRA3
    clear HA
    go_wp2
    go_ret
    exact ⟨rfl, by rw [← hw5]; exact HB.out⟩

set_option maxRecDepth 100000 in
theorem TextsKinds_lifted (os : Os) (started : os.Started) (H : Type) (enc : TypeId × Value → H) :
    ReturnsInHanded {} Tryz.checked os 7 .any (fun w args => (Rows.textsKindsSpec.pre enc Tryz.prog Tryz.f7 [] false w args ∧ laidMetH Tryz.prog [("pilaster/widths.table", Rows.laid_pilaster_widths_table)] w) ∧ sizedMet enc Tryz.prog Tryz.f7 (OpenSpec.ofChange Rows.textsKindsSpec) false w args) (Rows.textsKindsSpec.post enc Tryz.prog Tryz.f7 false true false false) := by
  refine returnsInHanded_of_change_and (C := Tryz.checked) (X := fun w _ => laidMetH Tryz.prog [("pilaster/widths.table", Rows.laid_pilaster_widths_table)] w) (fun _ _ _ hh h => h.of_heap hh) own started (by kernel_rfl) Tryz.func7
    (ChangeSpec.witness_shaped (enc := enc) (C := Tryz.checked) (os := os) (X := fun w _ => laidMetH Tryz.prog [("pilaster/widths.table", Rows.laid_pilaster_widths_table)] w) false (World.doorLaid Tryz.prog 400 os) #[.slice none 0 0] 8 rfl (World.shaped_of_RefB (by kernel_rfl) (by kernel_rfl)) (by kernel_rfl) (by kernel_rfl) (by kernel_rfl) (door_met os _)) ?_
  intro W base args ds gs before hval0 hW _ _ hL _
  have hT := tab_of hL
  clear hL
  have hval : ∀ (j : Nat) t v, Tryz.f7.params[j]? = some t → args[j]? = some v → Value.okWide Tryz.prog W .any base t v := hval0
  have hW' := hW
  obtain ⟨p, q, hT0, hV, rfl, hfz, hnd⟩ := hW
  have hA : DataW.TrodAll enc Tryz.prog W 0 (fun _ => true) true Tryz.f7.params.toList args.toList ds p := hT0
  rw [Tryz.params7] at hA hval
  obtain ⟨v0, vs0, d0, ds0, p0, q0, hargs, rfl, rfl, h0, r0⟩ := trodAll_cons hA
  obtain ⟨rfl, rfl, rfl⟩ := trodAll_nil r0
  obtain rfl : args = #[v0] := by cases args; simp_all
  obtain ⟨rfl, rfl⟩ := trodVars_none hV
  have hlt0 : ∀ x ∈ p0, x.block < W.heap.size := fun x hx => hW'.lt x (by simp [hx])
  obtain ⟨l0, hl0, hp0⟩ := open_texts (hval 0 22 v0 rfl rfl) h0 hlt0
  clear hT0 hval0
  refine (TextsKinds_walk W hT v0 l0 hl0 hp0).mono fun e W' ⟨he, hb⟩ => ?_
  subst he
  exact ⟨_, rfl, law_post laidOut Tryz.underlying4 (by kernel_rfl) (by kernel_rfl) rfl hW' rfl hb⟩

theorem TextsKinds_over : Rows.textsKindsRow.holds Tryz.pinned (OpenSpec.ofChange Rows.textsKindsSpec) :=
  OpenClaim.holds_of_wide 7 Tryz.f7 rfl rfl rfl rfl rfl rfl rfl ⟨rfl, rfl, rfl, rfl, rfl⟩ rfl rfl rfl rfl rfl (by kernel_rfl) Tryz.func7 (by kernel_rfl)
    (of_decide_eq_true (by kernel_rfl)) (by unfold Func.isWrapper; first | (rw [if_pos (by decide +kernel)]; kernel_rfl) | (rw [if_neg (by decide +kernel)]; exact ⟨rfl, rfl⟩))
    (fun os started H enc _ => TextsKinds_lifted os started H enc)

theorem TextsKinds_holds : Rows.TextsKindsCardSaid :=
  Claim7.holds_tied_plain_at .later [] _ true _ _ TextsKinds_over (fun _ h => by cases h) (by kernel_rfl) (fun _ h => by cases h) textsKinds_row_tie rfl ⟨rfl, rfl⟩ (by kernel_rfl) rfl
    (fun f fn hf hfn => by
      obtain rfl : f = 7 := Option.some.inj ((show Tryz.prog.funcNamed "pilaster/pilasterlaw15.TextsKinds" = some 7 by kernel_rfl).symm.trans hf) |>.symm
      obtain rfl : fn = Tryz.f7 := (Option.some.inj (Tryz.func7.symm.trans hfn)).symm
      exact ⟨by kernel_rfl, fun j t ht => stand_ins (by kernel_rfl) ht⟩)
    (by kernel_rfl)
#print axioms TextsKinds_holds

end Go.Proofs.YtblpkmmhmdpkjaaGreatDoor
