
/- The statement RleTakes: for any bytes, how many, whether signed, the law answers true. No condition. -/

import Derived.Test.YtnbiopihcbnkpaaGreatDoorG7
namespace Go.Proofs.YtnbiopihcbnkpaaGreatDoor

open Go.RowKit Go.ChangeShapes Go.WideShapes Go.ChangeAt

set_option maxHeartbeats 4000000 in
set_option maxRecDepth 100000 in
theorem RleTakes_walk (w : World) (ht : WTab w) (v0 : Value) (l0 : List UInt8) (hI0 : IsB l0 v0 w) (many : Int) (hm0 : -9223372036854775808 ≤ many) (hm1 : many ≤ 9223372036854775807) (s : Bool) :
    Calls Tryz.prog 5 #[v0, .int .i64 many, .bool s] w fun e w' => e = .returned (.bool true) ∧ Below w.heap.size w w' := by
  obtain ⟨A0, n00, c0, rfl⟩ := IsV.shape (f := bv) hI0
  obtain ⟨hn0, -, hc0, hm0, -⟩ := IsV.parts (f := bv) hI0
  obtain ⟨n0, hmin0⟩ : ∃ n, n = min n00 1500 := ⟨_, rfl⟩
  have HI := Lib.hid (IsV.take (f := bv) hI0 (show n0 ≤ n00 by omega))
  have HIL := Lib.hid (show (l0.take n0).length = n0 by rw [List.length_take]; omega)
  have hci0 : (c0 : Int) ≤ 9223372036854775807 := by unfold maxLen at hm0; omega
  have hnb0 : n0 ≤ 1500 := by omega
  have hnc0 : n0 ≤ c0 := by omega
  obtain ⟨l0c, hl0c⟩ : ∃ l, l = l0.take n0 := ⟨_, rfl⟩
  rw [← hl0c] at HI HIL
  clear hI0 hn0 hm0 hl0c
  have HIM := Lib.hid (show (l0c.map bv).length = n0 by rw [List.length_map]; exact HIL.out)
  have HT := Lib.hid ht
  have HMI : Hid (inInt many) := Lib.hid ⟨hm0, hm1⟩
  clear ht
  rcases (by omega : n00 ≤ 1500 ∧ n0 = n00 ∨ 1500 < n00 ∧ n0 = 1500) with ⟨h6, rfl⟩ | ⟨h6, rfl⟩
  all_goals
    clear hmin0
    go_enter Tryz.func5, Tryz.ntmps5
    go_wp2_with fail
    refine (shown_any _ HT.out).mono ?_
    rintro e w1 ⟨rfl, hb1⟩
    have HT := Lib.hid (WTab.below HT.out hb1 (WTab.lt HT.out))
    have HI := Lib.hid (IsB.below HI.out hb1)
    have HB := Lib.hid hb1
    clear hb1
    obtain ⟨-, hA2, -, -, hlies2⟩ := IsV.parts (f := bv) HI.out
    have hown2 := own_made w1 5
    have hbA2 : Below w1.heap.size w1 (w1.alloc (.cells #[] 5)) := (Below.refl _ _).alloc (Nat.le_refl _) _
    have hlA2 := hlies2.below hbA2
    have hzz2 := hbA2.size
    clear hlies2
    go_wp2_with (at_builtin; refine wpList_join elemB rfl _ _ rfl w1.heap.size _ _ _ _ _ _ (l0c.map bv) w1 rfl rfl hA2 HIM.out hlA2 (bv_one l0c) hown2 hbA2 hzz2 (by omega) (by omega) ?_)
    intro v2 w2 hown2' hb2 _ _
    have HC := Lib.hid (show IsB l0c v2 w2 from isB_own (by simpa using hown2'))
    have HT := Lib.hid (WTab.below HT.out hb2 (WTab.lt HT.out))
    have HI := Lib.hid (IsB.below HI.out hb2)
    have HB := Lib.hid (below_then HB.out hb2)
    clear hown2 hown2' hbA2 hlA2 hzz2 hb2 hA2
    go_wp2_with fail
    refine (utake_any l0c v2 many s _ HT.out HC.out (by have := HIL.out; omega) HMI.out).mono ?_
    rintro e w3 ⟨a, b, rfl, ha, hb, hb3⟩
    have HT := Lib.hid (WTab.below HT.out hb3 (WTab.lt HT.out))
    have HI := Lib.hid (IsB.below HI.out hb3)
    have HC := Lib.hid (IsB.below HC.out hb3)
    have HB := Lib.hid (below_then HB.out hb3)
    have HA := Lib.hid ha
    have HL1 : Hid ((utakeE l0c many s).1.length ≤ 1000000) := Lib.hid (by have := utakeE_len l0c many s; omega)
    have HBB := Lib.hid hb
    clear ha hb hb3
    go_wp2_with fail
    refine (rtake11_any l0c _ many s _ HI.out (by have := HIL.out; omega)).mono ?_
    rintro e w4 ⟨c, d, rfl, hc, hd, hb4⟩
    have HT := Lib.hid (WTab.below HT.out hb4 (WTab.lt HT.out))
    have HI := Lib.hid (IsB.below HI.out hb4)
    have HC := Lib.hid (IsB.below HC.out hb4)
    have HA := Lib.hid (IsV.below HA.out hb4)
    have HBB := Lib.hid (IsB.below HBB.out hb4)
    have HB := Lib.hid (below_then HB.out hb4)
    have HCC := Lib.hid hc
    have HD := Lib.hid hd
    clear hc hd hb4
    go_wp2_with fail
    refine (same8_is HA.out HCC.out HL1.out HL1.out).mono ?_
    rintro e w5 ⟨rfl, hb5⟩
    have HT := Lib.hid (WTab.below HT.out hb5 (WTab.lt HT.out))
    have HI := Lib.hid (IsB.below HI.out hb5)
    have HC := Lib.hid (IsB.below HC.out hb5)
    have HA := Lib.hid (IsV.below HA.out hb5)
    have HBB := Lib.hid (IsB.below HBB.out hb5)
    have HCC := Lib.hid (IsV.below HCC.out hb5)
    have HD := Lib.hid (IsB.below HD.out hb5)
    have HB := Lib.hid (below_then HB.out hb5)
    clear hb5
    have hz : ((utakeE l0c many s).2.2 == (utakeE l0c many s).2.2) = true := by simp
    have hz2 : ((utakeE l0c many s).1 == (utakeE l0c many s).1) = true := by simp
    have hc1 := textB HBB.out
    have hc2 := textB HD.out
    go_wp2
    go_ret
    exact ⟨rfl, HB.out⟩

set_option maxRecDepth 100000 in
theorem RleTakes_lifted (os : Os) (started : os.Started) (H : Type) (enc : TypeId × Value → H) :
    ReturnsInHanded {} Tryz.checked os 5 .any (fun w args => (Rows.rleTakesSpec.pre enc Tryz.prog Tryz.f5 [] false w args ∧ laidMetH Tryz.prog [("pilaster/widths.table", Rows.laid_pilaster_widths_table)] w) ∧ sizedMet enc Tryz.prog Tryz.f5 (OpenSpec.ofChange Rows.rleTakesSpec) false w args) (Rows.rleTakesSpec.post enc Tryz.prog Tryz.f5 false true false false) := by
  refine returnsInHanded_of_change_and (C := Tryz.checked) (X := fun w _ => laidMetH Tryz.prog [("pilaster/widths.table", Rows.laid_pilaster_widths_table)] w) (fun _ _ _ hh h => h.of_heap hh) own started (by kernel_rfl) Tryz.func5
    (ChangeSpec.witness_shaped (enc := enc) (C := Tryz.checked) (os := os) (X := fun w _ => laidMetH Tryz.prog [("pilaster/widths.table", Rows.laid_pilaster_widths_table)] w) false (World.doorLaid Tryz.prog 400 os) #[.slice none 0 0, .int .i64 0, .bool false] 8 rfl (World.shaped_of_RefB (by kernel_rfl) (by kernel_rfl)) (by kernel_rfl) (by kernel_rfl) (by kernel_rfl) (door_met os _)) ?_
  intro W base args ds gs before hval0 hW _ _ hL _
  have hT := tab_of hL
  clear hL
  have hval : ∀ (j : Nat) t v, Tryz.f5.params[j]? = some t → args[j]? = some v → Value.okWide Tryz.prog W .any base t v := hval0
  have hW' := hW
  obtain ⟨p, q, hT0, hV, rfl, hfz, hnd⟩ := hW
  have hA : DataW.TrodAll enc Tryz.prog W 0 (fun _ => true) true Tryz.f5.params.toList args.toList ds p := hT0
  rw [Tryz.params5] at hA hval
  obtain ⟨v0, vs0, d0, ds0, p0, q0, hargs, rfl, rfl, h0, r0⟩ := trodAll_cons hA
  obtain ⟨v1, vs1, d1, ds1, p1, q1, rfl, rfl, rfl, h1, r1⟩ := trodAll_cons r0
  obtain ⟨v2, vs2, d2, ds2, p2, q2, rfl, rfl, rfl, h2, r2⟩ := trodAll_cons r1
  obtain ⟨rfl, rfl, rfl⟩ := trodAll_nil r2
  obtain rfl : args = #[v0, v1, v2] := by cases args; simp_all
  obtain ⟨rfl, rfl⟩ := trodVars_none hV
  have hlt0 : ∀ x ∈ p0, x.block < W.heap.size := fun x hx => hW'.lt x (by simp [hx])
  obtain ⟨l0, hl0⟩ := open_bytesv Tryz.underlying25 Tryz.underlying5 (by kernel_rfl) (hval 0 25 v0 rfl rfl) h0 hlt0
  obtain ⟨a1, rfl, rfl, rfl, w1⟩ := open_int Tryz.underlying3 (hval 1 3 v1 rfl rfl) h1
  obtain ⟨a2, rfl, rfl, rfl⟩ := open_bool Tryz.underlying4 (hval 2 4 v2 rfl rfl) h2
  clear hT0 hval0
  refine (RleTakes_walk W hT v0 l0 hl0 a1 (wf_i64 w1).1 (wf_i64 w1).2 a2).mono fun e W' ⟨he, hb⟩ => ?_
  subst he
  exact ⟨_, rfl, law_post laidOut Tryz.underlying4 (by kernel_rfl) (by kernel_rfl) rfl hW' rfl hb⟩

theorem RleTakes_over : Rows.rleTakesRow.holds Tryz.pinned (OpenSpec.ofChange Rows.rleTakesSpec) :=
  OpenClaim.holds_of_wide 5 Tryz.f5 rfl rfl rfl rfl rfl rfl rfl ⟨rfl, rfl, rfl, rfl, rfl⟩ rfl rfl rfl rfl rfl (by kernel_rfl) Tryz.func5 (by kernel_rfl)
    (of_decide_eq_true (by kernel_rfl)) (by unfold Func.isWrapper; first | (rw [if_pos (by decide +kernel)]; kernel_rfl) | (rw [if_neg (by decide +kernel)]; exact ⟨rfl, rfl⟩))
    (fun os started H enc _ => RleTakes_lifted os started H enc)

theorem RleTakes_holds : Rows.RleTakesCardSaid :=
  Claim7.holds_tied_plain_at .later [] _ true _ _ RleTakes_over (fun _ h => by cases h) (by kernel_rfl) (fun _ h => by cases h) rleTakes_row_tie rfl ⟨rfl, rfl⟩ (by kernel_rfl) rfl
    (fun f fn hf hfn => by
      obtain rfl : f = 5 := Option.some.inj ((show Tryz.prog.funcNamed "pilaster/pilasterlaw11.RleTakes" = some 5 by kernel_rfl).symm.trans hf) |>.symm
      obtain rfl : fn = Tryz.f5 := (Option.some.inj (Tryz.func5.symm.trans hfn)).symm
      exact ⟨by kernel_rfl, fun j t ht => stand_ins (by kernel_rfl) ht⟩)
    (by kernel_rfl)
#print axioms RleTakes_holds

end Go.Proofs.YtnbiopihcbnkpaaGreatDoor
