
/- The statement TextsBack: for any texts the law answers true. No condition. -/

import Derived.StillTailTactics
import Derived.Test.YtblpkmmhmdpkjaaGreatDoorDG11
namespace Go.Proofs.YtblpkmmhmdpkjaaGreatDoor

open Go.RowKit Go.ChangeShapes Go.WideShapes Go.ChangeAt

/-- The texts of at most 300 bytes. -/
def jkeep (l : List ByteArray) : List ByteArray := l.filter fun s => decide (s.size ≤ 300)
theorem jkeep_next {l : List ByteArray} {k : Nat} (h : k < l.length) : jkeep (l.take (k + 1)) = if l[k].size ≤ 300 then jkeep (l.take k) ++ [l[k]] else jkeep (l.take k) := by
  unfold jkeep
  rw [List.take_succ_eq_append_getElem h, List.filter_append]
  by_cases h2 : l[k].size ≤ 300
  · rw [if_pos h2]; simp [h2]
  · rw [if_neg h2]; simp [h2]
theorem jkeep_size {l : List ByteArray} : ∀ s ∈ jkeep l, s.size ≤ 300 := fun _ hs => of_decide_eq_true (List.mem_filter.1 hs).2
def KeepRel (l : List ByteArray) (w : World) (v i : Value) (wr : World) : Prop :=
  ∃ (k : Nat) (acc : List ByteArray), k ≤ l.length ∧ k ≤ 300 ∧ i = .int .i64 (k : Int) ∧ acc = jkeep (l.take k) ∧ acc.length ≤ k ∧ wr.ownsRow w.heap.size 9 1 v acc.length (acc.map Value.string) ∧ Below w.heap.size w wr
set_option maxHeartbeats 4000000 in
set_option maxRecDepth 100000 in
theorem TextsBack_walk (w : World) (ht : WTab w) (v0 : Value) (l0 : List ByteArray) (hI0 : IsV Value.string l0 v0 w) (hs0 : ∀ x ∈ l0, x.size ≤ maxLen) :
    Calls Tryz.prog 5 #[v0] w fun e w' => e = .returned (.bool true) ∧ Below w.heap.size w w' := by
  obtain ⟨A0, n0, c0, rfl⟩ := hI0.shape
  have HN := Lib.hid hI0.parts.1
  have HNM := Lib.hid (show (n0 : Int) ≤ 9223372036854775807 by have := hI0.parts.2.2.1; have := hI0.parts.2.2.2.1; unfold maxLen at this; omega)
  have HI := Lib.hid hI0
  have HT := Lib.hid ht
  have HS := Lib.hid hs0
  clear hI0 ht hs0
  go_enter Tryz.func5, Tryz.ntmps5
  go_wp2_with fail
  refine (shown_any _ HT.out).mono ?_
  rintro e w1 ⟨rfl, hb1⟩
  have HI := Lib.hid (IsV.below HI.out hb1)
  have HT := Lib.hid (WTab.below HT.out hb1 (WTab.lt HT.out))
  have HB := Lib.hid hb1
  clear hb1
  have HST : Hid (KeepRel l0 w1 (.slice (some ⟨w1.heap.size, 0, none⟩) 0 0) (.int .i64 0) (w1.alloc (.cells #[] 9))) := Lib.hid ⟨0, [], Nat.zero_le _, Nat.zero_le _, rfl, rfl, Nat.zero_le _, ownW_made w1 9 1, (Below.refl _ _).alloc (Nat.le_refl _) _⟩
  go_wp2
  go_loopw [4, 5] (KeepRel l0 w1) (fun _ i _ => 300 - (intOf i).toNat)
  case atStart => exact HST.out
  case round =>
    obtain ⟨k, acc, hk, hk3, rfl, hacc, hal, hown, hbw⟩ := hrel
    clear HST
    have hz := hbw.size
    have hkn : k ≤ n0 := by have := HN.out; omega
    have HACC := Lib.hid hacc
    clear hacc hk
    by_cases hlt : k < n0
    case neg =>
      obtain rfl : k = n0 := by omega
      have hlti : ¬ (k : Int) < (k : Int) := by omega
      have HT := Lib.hid (WTab.below HT.out hbw (WTab.lt HT.out))
      have HB := Lib.hid (below_then HB.out hbw)
      have ho := isV_own (f := Value.string) hown
      obtain ⟨Ao, mo, co, rfl⟩ := ho.shape
      have HMO := Lib.hid ho.parts.1
      have HO := Lib.hid ho
      have HA3 : Hid (acc.length ≤ 300) := Lib.hid (by omega)
      have HAS : Hid (∀ s ∈ acc, s.size ≤ 300) := Lib.hid (by rw [HACC.out]; exact jkeep_size)
      have hmo : mo ≤ 300 := by have := HMO.out; have := HA3.out; omega
      have hJ := jback (l := acc) (by have := HA3.out; omega) HAS.out
      have HSM := Lib.hid (jput_small HA3.out HAS.out)
      have HSL := Lib.hid (jputE_many acc)
      obtain ⟨C, hC⟩ : ∃ C, jputE acc = (C, 0) := ⟨(jputE acc).1, Prod.ext rfl hJ.1⟩
      have HP := Lib.hid (fun X h1 h2 => jput_any acc (.slice Ao mo co) X h1 h2 (by have := HA3.out; omega))
      rw [hC] at hJ HP HSM HSL
      have HCM : Hid (C.many = (mo : Int)) := Lib.hid (by have h := hJ.2.1; rw [HMO.out] at h; exact h)
      have HTK := Lib.hid (fun X v h1 h2 => jtake_own C v X h1 h2 HSL.out HSM.out)
      rw [show jtakeE C = (acc, 0) from hJ.2.2] at HTK
      clear ho hown hbw hJ hC
      go_wp2_with fail
      refine (HP.out _ HT.out HO.out).mono ?_
      rintro e w11 ⟨va, rfl, ha, hb11⟩
      have HT := Lib.hid (WTab.below HT.out hb11 (WTab.lt HT.out))
      have HO := Lib.hid (IsV.below HO.out hb11)
      have HB := Lib.hid (below_then HB.out hb11)
      have HA := Lib.hid ha
      clear ha hb11
      obtain ⟨Aa, na, ca, rfl⟩ := IsCol.shape HA.out
      rw [show colv C (.slice Aa na ca) = .agg #[.int .i64 C.many, .int .i64 C.enc, .int .i64 C.texts, .slice Aa na ca] from rfl]
      obtain ⟨w12, hw12⟩ : ∃ w', w' = w11.alloc (.cells #[.int .i64 C.many, .int .i64 C.enc, .int .i64 C.texts, .slice Aa na ca] 27) := ⟨_, rfl⟩
      have hr12 : Row w12 w11.heap.size 27 [.int .i64 C.many, .int .i64 C.enc, .int .i64 C.texts, .slice Aa na ca] := by rw [hw12]; exact heap_alloc_new w11 _
      have hb12 : Below w11.heap.size w11 w12 := by rw [hw12]; exact (Below.refl _ _).alloc (Nat.le_refl _) _
      have HT := Lib.hid (WTab.below HT.out hb12 (WTab.lt HT.out))
      have HO := Lib.hid (IsV.below HO.out hb12)
      have HA := Lib.hid (IsCol.below HA.out hb12)
      have HB := Lib.hid (below_then HB.out hb12)
      have HRA := Lib.hid hr12
      clear hr12 hb12
      have cHRA0 := HRA.out.cell 0
      have cHRA1 := HRA.out.cell 1
      have cHRA2 := HRA.out.cell 2
      have cHRA3 := HRA.out.cell 3
      simp only [List.getElem?_cons_zero, List.getElem?_cons_succ] at cHRA0 cHRA1 cHRA2 cHRA3
      rw [hw12] at cHRA0 cHRA1 cHRA2 cHRA3
      go_wp2_with fail
      rw [← hw12]
      clear hw12 cHRA0 cHRA1 cHRA2 cHRA3
      refine (HTK.out _ _ HT.out HA.out).mono ?_
      rintro e w13 ⟨vm, rfl, hm, hb13⟩
      have HT := Lib.hid (WTab.below HT.out hb13 (WTab.lt HT.out))
      have HO := Lib.hid (IsV.below HO.out hb13)
      have HA := Lib.hid (IsCol.below HA.out hb13)
      have HRA := Lib.hid (Row.below HRA.out hb13 (Row.lt HRA.out))
      have HB := Lib.hid (below_then HB.out hb13)
      have HM := Lib.hid hm
      clear hm hb13
      go_wp2_with fail
      refine (sameS_any acc vm _ _ HM.out.isV HO.out (by have := HA3.out; omega)).mono ?_
      rintro e w14 ⟨rfl, hb14⟩
      have HT := Lib.hid (WTab.below HT.out hb14 (WTab.lt HT.out))
      have HO := Lib.hid (IsV.below HO.out hb14)
      have HA := Lib.hid (IsCol.below HA.out hb14)
      have HRA := Lib.hid (Row.below HRA.out hb14 (Row.lt HRA.out))
      have HM := Lib.hid (OwnV.below HM.out hb14)
      have HB := Lib.hid (below_then HB.out hb14)
      clear hb14
      have c0 := HRA.out.cell 0
      simp only [List.getElem?_cons_zero] at c0
      rw [HCM.out] at c0
      have hz : ((mo : Int) == (mo : Int)) = true := by simp
      go_wp2
      go_ret
      exact ⟨rfl, HB.out⟩
    have hlti : (k : Int) < (n0 : Int) := by omega
    by_cases h3 : k < 300
    case neg =>
      obtain rfl : k = 300 := by omega
      have hlt3 : ¬ (((300 : Nat) : Int) < 300) := by omega
      have HT := Lib.hid (WTab.below HT.out hbw (WTab.lt HT.out))
      have HB := Lib.hid (below_then HB.out hbw)
      have ho := isV_own (f := Value.string) hown
      obtain ⟨Ao, mo, co, rfl⟩ := ho.shape
      have HMO := Lib.hid ho.parts.1
      have HO := Lib.hid ho
      have HA3 : Hid (acc.length ≤ 300) := Lib.hid (by omega)
      have HAS : Hid (∀ s ∈ acc, s.size ≤ 300) := Lib.hid (by rw [HACC.out]; exact jkeep_size)
      have hmo : mo ≤ 300 := by have := HMO.out; have := HA3.out; omega
      have hJ := jback (l := acc) (by have := HA3.out; omega) HAS.out
      have HSM := Lib.hid (jput_small HA3.out HAS.out)
      have HSL := Lib.hid (jputE_many acc)
      obtain ⟨C, hC⟩ : ∃ C, jputE acc = (C, 0) := ⟨(jputE acc).1, Prod.ext rfl hJ.1⟩
      have HP := Lib.hid (fun X h1 h2 => jput_any acc (.slice Ao mo co) X h1 h2 (by have := HA3.out; omega))
      rw [hC] at hJ HP HSM HSL
      have HCM : Hid (C.many = (mo : Int)) := Lib.hid (by have h := hJ.2.1; rw [HMO.out] at h; exact h)
      have HTK := Lib.hid (fun X v h1 h2 => jtake_own C v X h1 h2 HSL.out HSM.out)
      rw [show jtakeE C = (acc, 0) from hJ.2.2] at HTK
      clear ho hown hbw hJ hC
      go_wp2_with fail
      refine (HP.out _ HT.out HO.out).mono ?_
      rintro e w11 ⟨va, rfl, ha, hb11⟩
      have HT := Lib.hid (WTab.below HT.out hb11 (WTab.lt HT.out))
      have HO := Lib.hid (IsV.below HO.out hb11)
      have HB := Lib.hid (below_then HB.out hb11)
      have HA := Lib.hid ha
      clear ha hb11
      obtain ⟨Aa, na, ca, rfl⟩ := IsCol.shape HA.out
      rw [show colv C (.slice Aa na ca) = .agg #[.int .i64 C.many, .int .i64 C.enc, .int .i64 C.texts, .slice Aa na ca] from rfl]
      obtain ⟨w12, hw12⟩ : ∃ w', w' = w11.alloc (.cells #[.int .i64 C.many, .int .i64 C.enc, .int .i64 C.texts, .slice Aa na ca] 27) := ⟨_, rfl⟩
      have hr12 : Row w12 w11.heap.size 27 [.int .i64 C.many, .int .i64 C.enc, .int .i64 C.texts, .slice Aa na ca] := by rw [hw12]; exact heap_alloc_new w11 _
      have hb12 : Below w11.heap.size w11 w12 := by rw [hw12]; exact (Below.refl _ _).alloc (Nat.le_refl _) _
      have HT := Lib.hid (WTab.below HT.out hb12 (WTab.lt HT.out))
      have HO := Lib.hid (IsV.below HO.out hb12)
      have HA := Lib.hid (IsCol.below HA.out hb12)
      have HB := Lib.hid (below_then HB.out hb12)
      have HRA := Lib.hid hr12
      clear hr12 hb12
      have cHRA0 := HRA.out.cell 0
      have cHRA1 := HRA.out.cell 1
      have cHRA2 := HRA.out.cell 2
      have cHRA3 := HRA.out.cell 3
      simp only [List.getElem?_cons_zero, List.getElem?_cons_succ] at cHRA0 cHRA1 cHRA2 cHRA3
      rw [hw12] at cHRA0 cHRA1 cHRA2 cHRA3
      go_wp2_with fail
      rw [← hw12]
      clear hw12 cHRA0 cHRA1 cHRA2 cHRA3
      refine (HTK.out _ _ HT.out HA.out).mono ?_
      rintro e w13 ⟨vm, rfl, hm, hb13⟩
      have HT := Lib.hid (WTab.below HT.out hb13 (WTab.lt HT.out))
      have HO := Lib.hid (IsV.below HO.out hb13)
      have HA := Lib.hid (IsCol.below HA.out hb13)
      have HRA := Lib.hid (Row.below HRA.out hb13 (Row.lt HRA.out))
      have HB := Lib.hid (below_then HB.out hb13)
      have HM := Lib.hid hm
      clear hm hb13
      go_wp2_with fail
      refine (sameS_any acc vm _ _ HM.out.isV HO.out (by have := HA3.out; omega)).mono ?_
      rintro e w14 ⟨rfl, hb14⟩
      have HT := Lib.hid (WTab.below HT.out hb14 (WTab.lt HT.out))
      have HO := Lib.hid (IsV.below HO.out hb14)
      have HA := Lib.hid (IsCol.below HA.out hb14)
      have HRA := Lib.hid (Row.below HRA.out hb14 (Row.lt HRA.out))
      have HM := Lib.hid (OwnV.below HM.out hb14)
      have HB := Lib.hid (below_then HB.out hb14)
      clear hb14
      have c0 := HRA.out.cell 0
      simp only [List.getElem?_cons_zero] at c0
      rw [HCM.out] at c0
      have hz : ((mo : Int) == (mo : Int)) = true := by simp
      go_wp2
      go_ret
      exact ⟨rfl, HB.out⟩
    have hlt3 : (k : Int) < 300 := by omega
    have hkl : k < l0.length := by have := HN.out; omega
    obtain ⟨ad, hAd, _, hcell⟩ := (IsV.below HI.out hbw).at hkl
    subst hAd
    obtain ⟨s, hs⟩ : ∃ s, s = l0[k] := ⟨_, rfl⟩
    rw [← hs] at hcell
    have hA2 := jkeep_next hkl
    rw [← hs, ← HACC.out] at hA2
    have HA2 := Lib.hid hA2
    obtain ⟨m, hm⟩ : ∃ m, m = acc.length := ⟨_, rfl⟩
    rw [← hm] at hown hal
    have HMA := Lib.hid hm
    clear hs hA2 hm
    by_cases h4 : s.size ≤ 300
    · have d1 : decide ((s.size : Int) ≤ (300 : Int)) = true := decide_eq_true (by omega)
      have d2 : decide (s.size ≤ 300) = true := decide_eq_true h4
      have HA4 := Lib.hid (show acc ++ [s] = jkeep (l0.take (k + 1)) by rw [HA2.out, if_pos h4])
      clear h4
      go_wp2_with (at_builtin; refine wpList_push elemS rfl _ _ rfl w1.heap.size _ _ _ (.string s) wr w1 rfl rfl rfl rfl hown hbw hz (by omega) (by omega) ?_)
      intro v7 w7 ho7 hb7 _ _
      have HREL := Lib.hid (show KeepRel l0 w1 v7 (.int .i64 ((k + 1 : Nat) : Int)) w7 from ⟨k + 1, _, hkl, by omega, rfl, HA4.out, by rw [List.length_append, ← HMA.out]; simp; omega, by rw [List.map_append, List.length_append, ← HMA.out]; exact ho7, hb7⟩)
      clear ho7 hb7 hown hbw
      go_wp2
      go_roundw
      case rel => exact HREL.out
      case measure => simp [intOf]; omega
    · have d1 : decide ((s.size : Int) ≤ (300 : Int)) = false := decide_eq_false (by omega)
      have d2 : decide (s.size ≤ 300) = false := decide_eq_false h4
      have HREL := Lib.hid (show KeepRel l0 w1 _ (.int .i64 ((k + 1 : Nat) : Int)) wr from ⟨k + 1, acc, hkl, by omega, rfl, by rw [HA2.out, if_neg h4], by rw [← HMA.out]; omega, by rw [← HMA.out]; exact hown, hbw⟩)
      clear h4 hown hbw
      go_wp2
      go_roundw
      case rel => exact HREL.out
      case measure => simp [intOf]; omega

set_option maxRecDepth 100000 in
theorem TextsBack_lifted (os : Os) (started : os.Started) (H : Type) (enc : TypeId × Value → H) :
    ReturnsInHanded {} Tryz.checked os 5 .any (fun w args => (Rows.textsBackSpec.pre enc Tryz.prog Tryz.f5 [] false w args ∧ laidMetH Tryz.prog [("pilaster/widths.table", Rows.laid_pilaster_widths_table)] w) ∧ sizedMet enc Tryz.prog Tryz.f5 (OpenSpec.ofChange Rows.textsBackSpec) false w args) (Rows.textsBackSpec.post enc Tryz.prog Tryz.f5 false true false false) := by
  refine returnsInHanded_of_change_and (C := Tryz.checked) (X := fun w _ => laidMetH Tryz.prog [("pilaster/widths.table", Rows.laid_pilaster_widths_table)] w) (fun _ _ _ hh h => h.of_heap hh) own started (by kernel_rfl) Tryz.func5
    (ChangeSpec.witness_shaped (enc := enc) (C := Tryz.checked) (os := os) (X := fun w _ => laidMetH Tryz.prog [("pilaster/widths.table", Rows.laid_pilaster_widths_table)] w) false (World.doorLaid Tryz.prog 400 os) #[.slice none 0 0] 8 rfl (World.shaped_of_RefB (by kernel_rfl) (by kernel_rfl)) (by kernel_rfl) (by kernel_rfl) (by kernel_rfl) (door_met os _)) ?_
  intro W base args ds gs before hval0 hW _ _ hL _
  have hT := tab_of hL
  clear hL
  have hval : ∀ (j : Nat) t v, Tryz.f5.params[j]? = some t → args[j]? = some v → Value.okWide Tryz.prog W .any base t v := hval0
  have hW' := hW
  obtain ⟨p, q, hT0, hV, rfl, hfz, hnd⟩ := hW
  have hA : DataW.TrodAll enc Tryz.prog W 0 (fun _ => true) true Tryz.f5.params.toList args.toList ds p := hT0
  rw [Tryz.params5] at hA hval
  obtain ⟨v0, vs0, d0, ds0, p0, q0, hargs, rfl, rfl, h0, r0⟩ := trodAll_cons hA
  obtain ⟨rfl, rfl, rfl⟩ := trodAll_nil r0
  obtain rfl : args = #[v0] := by cases args; simp_all
  obtain ⟨rfl, rfl⟩ := trodVars_none hV
  have hlt0 : ∀ x ∈ p0, x.block < W.heap.size := fun x hx => hW'.lt x (by simp [hx])
  obtain ⟨l0, hl0, hp0⟩ := open_texts (hval 0 22 v0 rfl rfl) h0 hlt0
  clear hT0 hval0
  refine (TextsBack_walk W hT v0 l0 hl0 hp0).mono fun e W' ⟨he, hb⟩ => ?_
  subst he
  exact ⟨_, rfl, law_post laidOut Tryz.underlying4 (by kernel_rfl) (by kernel_rfl) rfl hW' rfl hb⟩

theorem TextsBack_over : Rows.textsBackRow.holds Tryz.pinned (OpenSpec.ofChange Rows.textsBackSpec) :=
  OpenClaim.holds_of_wide 5 Tryz.f5 rfl rfl rfl rfl rfl rfl rfl ⟨rfl, rfl, rfl, rfl, rfl⟩ rfl rfl rfl rfl rfl (by kernel_rfl) Tryz.func5 (by kernel_rfl)
    (of_decide_eq_true (by kernel_rfl)) (by unfold Func.isWrapper; first | (rw [if_pos (by decide +kernel)]; kernel_rfl) | (rw [if_neg (by decide +kernel)]; exact ⟨rfl, rfl⟩))
    (fun os started H enc _ => TextsBack_lifted os started H enc)

theorem TextsBack_holds : Rows.TextsBackCardSaid :=
  Claim7.holds_tied_plain_at .later [] _ true _ _ TextsBack_over (fun _ h => by cases h) (by kernel_rfl) (fun _ h => by cases h) textsBack_row_tie rfl ⟨rfl, rfl⟩ (by kernel_rfl) rfl
    (fun f fn hf hfn => by
      obtain rfl : f = 5 := Option.some.inj ((show Tryz.prog.funcNamed "pilaster/pilasterlaw15.TextsBack" = some 5 by kernel_rfl).symm.trans hf) |>.symm
      obtain rfl : fn = Tryz.f5 := (Option.some.inj (Tryz.func5.symm.trans hfn)).symm
      exact ⟨by kernel_rfl, fun j t ht => stand_ins (by kernel_rfl) ht⟩)
    (by kernel_rfl)
#print axioms TextsBack_holds

end Go.Proofs.YtblpkmmhmdpkjaaGreatDoor
