
/- The statement DirectPlain: for any numbers, whether signed, the law answers true. No condition. -/

import Derived.Test.YtiapopaggpnceaaDoorDShown

import Derived.Test.YtiapopaggpnceaaDoorDRPut

import Derived.Test.YtiapopaggpnceaaDoorDoor

namespace Go.Proofs.YtiapopaggpnceaaDoor

open Go.RowKit Go.ChangeShapes Go.WideShapes Go.ChangeAt

theorem dplainE_len (l : List Int) (s : Bool) : (dplainE l s).1.length ≤ l.length := by
  unfold dplainE
  cases h : dplain l s with
  | none => simp
  | some u => exact Nat.le_of_eq (dplain_len h)
theorem dmadeE_len (l : List Nat) (s : Bool) : (dmadeE l s).1.length ≤ l.length := by
  unfold dmadeE
  cases h : dmade l s with
  | none => simp
  | some u => exact Nat.le_of_eq (dmade_len h)
set_option maxHeartbeats 4000000 in
set_option maxRecDepth 100000 in
theorem DirectPlain_walk (w : World) (ht : WTab w) (v0 : Value) (l0 : List Int) (hI0 : IsV iv l0 v0 w) (hx0 : ∀ x ∈ l0, inInt x) (v1 : Value) (l1 : List Nat) (hI1 : IsV uv l1 v1 w) (hx1 : ∀ x ∈ l1, x < 2 ^ 64) (s : Bool) :
    Calls Tryd.prog 4 #[v0, v1, .bool s] w fun e w' => e = .returned (.bool true) ∧ Below w.heap.size w w' := by
  obtain ⟨A1, n10, c1, rfl⟩ := IsV.shape (f := uv) hI1
  obtain ⟨hn1, -, hc1, hm1, -⟩ := IsV.parts (f := uv) hI1
  obtain ⟨n1, hmin1⟩ : ∃ n, n = min n10 600 := ⟨_, rfl⟩
  have HU := Lib.hid (IsV.take (f := uv) hI1 (show n1 ≤ n10 by omega))
  have HUL := Lib.hid (show (l1.take n1).length = n1 by rw [List.length_take]; omega)
  have hci1 : (c1 : Int) ≤ 9223372036854775807 := by unfold maxLen at hm1; omega
  have hnb1 : n1 ≤ 600 := by omega
  have hnc1 : n1 ≤ c1 := by omega
  obtain ⟨l1c, hl1c⟩ : ∃ l, l = l1.take n1 := ⟨_, rfl⟩
  have HXU : Hid (∀ x ∈ l1c, x < 2 ^ 64) := Lib.hid (by rw [hl1c]; exact mem_take hx1 n1)
  rw [← hl1c] at HU HUL
  clear hI1 hn1 hm1 hl1c
  have HT := Lib.hid ht
  have HI := Lib.hid hI0
  have HX := Lib.hid hx0
  clear ht hI0 hx0 hx1
  rcases (by omega : n10 ≤ 600 ∧ n1 = n10 ∨ 600 < n10 ∧ n1 = 600) with ⟨h6, rfl⟩ | ⟨h6, rfl⟩
  all_goals
    clear hmin1
    go_enter Tryd.func4, Tryd.ntmps4
    go_wp2_with fail
    refine (shown_any _ HT.out).mono ?_
    rintro e w1 ⟨rfl, hb1⟩
    have HT := Lib.hid (WTab.below HT.out hb1 (WTab.lt HT.out))
    have HI := Lib.hid (IsV.below HI.out hb1)
    have HU := Lib.hid (IsV.below HU.out hb1)
    have HB := Lib.hid hb1
    clear hb1
    go_wp2_with fail
    refine (few_is HI.out).mono ?_
    rintro e w' ⟨⟨u, rfl, hu⟩, rfl⟩
    obtain ⟨l, hl⟩ : ∃ l, l = l0.take 600 := ⟨_, rfl⟩
    rw [← hl] at hu
    have HJL : Hid (l.length ≤ 600) := Lib.hid (by rw [hl, List.length_take]; omega)
    have HJ := Lib.hid hu
    have HXJ : Hid (∀ x ∈ l, inInt x) := Lib.hid (by rw [hl]; exact mem_take HX.out 600)
    clear hu hl
    go_wp2_with fail
    refine (dplain_any l u s _ HJ.out HXJ.out (by have := HJL.out; omega)).mono ?_
    rintro e w2 ⟨a, rfl, ha, hb2⟩
    have HT := Lib.hid (WTab.below HT.out hb2 (WTab.lt HT.out))
    have HU := Lib.hid (IsV.below HU.out hb2)
    have HJ := Lib.hid (IsV.below HJ.out hb2)
    have HB := Lib.hid (below_then HB.out hb2)
    have HA := Lib.hid ha
    have HL1 : Hid ((dplainE l s).1.length ≤ 1000000) := Lib.hid (by have := dplainE_len l s; have := HJL.out; omega)
    have HL2 : Hid ((dmadeE l1c s).1.length ≤ 1000000) := Lib.hid (by have := dmadeE_len l1c s; have := HUL.out; omega)
    clear ha hb2
    go_wp2_with fail
    refine (rplain8_any l u s _ HJ.out HXJ.out (by have := HJL.out; omega)).mono ?_
    rintro e w3 ⟨b, rfl, hb, hb3⟩
    have HT := Lib.hid (WTab.below HT.out hb3 (WTab.lt HT.out))
    have HU := Lib.hid (IsV.below HU.out hb3)
    have HJ := Lib.hid (IsV.below HJ.out hb3)
    have HA := Lib.hid (IsV.below HA.out hb3)
    have HB := Lib.hid (below_then HB.out hb3)
    have HBB := Lib.hid hb
    clear hb hb3
    go_wp2_with fail
    refine (dmade_any l1c _ s _ HU.out HXU.out (by have := HUL.out; omega)).mono ?_
    rintro e w4 ⟨c, rfl, hc, hb4⟩
    have HT := Lib.hid (WTab.below HT.out hb4 (WTab.lt HT.out))
    have HU := Lib.hid (IsV.below HU.out hb4)
    have HJ := Lib.hid (IsV.below HJ.out hb4)
    have HA := Lib.hid (IsV.below HA.out hb4)
    have HBB := Lib.hid (IsV.below HBB.out hb4)
    have HB := Lib.hid (below_then HB.out hb4)
    have HC := Lib.hid hc
    clear hc hb4
    go_wp2_with fail
    refine (rmade8_any l1c _ s _ HU.out HXU.out (by have := HUL.out; omega)).mono ?_
    rintro e w5 ⟨d, rfl, hd, hb5⟩
    have HT := Lib.hid (WTab.below HT.out hb5 (WTab.lt HT.out))
    have HU := Lib.hid (IsV.below HU.out hb5)
    have HJ := Lib.hid (IsV.below HJ.out hb5)
    have HA := Lib.hid (IsV.below HA.out hb5)
    have HBB := Lib.hid (IsV.below HBB.out hb5)
    have HC := Lib.hid (IsV.below HC.out hb5)
    have HB := Lib.hid (below_then HB.out hb5)
    have HD := Lib.hid hd
    clear hd hb5
    go_wp2_with fail
    refine (same_is (isU_iff.2 HA.out) (isU_iff.2 HBB.out) HL1.out HL1.out).mono ?_
    rintro e w6 ⟨rfl, hb6⟩
    have HT := Lib.hid (WTab.below HT.out hb6 (WTab.lt HT.out))
    have HU := Lib.hid (IsV.below HU.out hb6)
    have HJ := Lib.hid (IsV.below HJ.out hb6)
    have HA := Lib.hid (IsV.below HA.out hb6)
    have HBB := Lib.hid (IsV.below HBB.out hb6)
    have HC := Lib.hid (IsV.below HC.out hb6)
    have HD := Lib.hid (IsV.below HD.out hb6)
    have HB := Lib.hid (below_then HB.out hb6)
    clear hb6
    go_wp2_with fail
    refine (same8_is HC.out HD.out HL2.out HL2.out).mono ?_
    rintro e w7 ⟨rfl, hb7⟩
    have HT := Lib.hid (WTab.below HT.out hb7 (WTab.lt HT.out))
    have HU := Lib.hid (IsV.below HU.out hb7)
    have HJ := Lib.hid (IsV.below HJ.out hb7)
    have HA := Lib.hid (IsV.below HA.out hb7)
    have HBB := Lib.hid (IsV.below HBB.out hb7)
    have HC := Lib.hid (IsV.below HC.out hb7)
    have HD := Lib.hid (IsV.below HD.out hb7)
    have HB := Lib.hid (below_then HB.out hb7)
    clear hb7
    have hz : ((dplainE l s).2 == (dplainE l s).2) = true := by simp
    have hz2 : ((dmadeE l1c s).2 == (dmadeE l1c s).2) = true := by simp
    have hz3 : ((dplainE l s).1 == (dplainE l s).1) = true := by simp
    have hz4 : ((dmadeE l1c s).1 == (dmadeE l1c s).1) = true := by simp
    go_wp2
    go_ret
    exact ⟨rfl, HB.out⟩

set_option maxRecDepth 100000 in
theorem DirectPlain_lifted (os : Os) (started : os.Started) (H : Type) (enc : TypeId × Value → H) :
    ReturnsInHanded {} Tryd.checked os 4 .any (fun w args => (Rows.directPlainSpec.pre enc Tryd.prog Tryd.f4 [] false w args ∧ laidMetH Tryd.prog [("pilaster/widths.table", Rows.laid_pilaster_widths_table)] w) ∧ sizedMet enc Tryd.prog Tryd.f4 (OpenSpec.ofChange Rows.directPlainSpec) false w args) (Rows.directPlainSpec.post enc Tryd.prog Tryd.f4 false true false false) := by
  refine returnsInHanded_of_change_and (C := Tryd.checked) (X := fun w _ => laidMetH Tryd.prog [("pilaster/widths.table", Rows.laid_pilaster_widths_table)] w) (fun _ _ _ hh h => h.of_heap hh) own started (by kernel_rfl) Tryd.func4
    (ChangeSpec.witness_shaped (enc := enc) (C := Tryd.checked) (os := os) (X := fun w _ => laidMetH Tryd.prog [("pilaster/widths.table", Rows.laid_pilaster_widths_table)] w) false (World.doorLaid Tryd.prog 400 os) #[.slice none 0 0, .slice none 0 0, .bool false] 8 rfl (World.shaped_of_RefB (by kernel_rfl) (by kernel_rfl)) (by kernel_rfl) (by kernel_rfl) (by kernel_rfl) (door_met os _)) ?_
  intro W base args ds gs before hval0 hW _ _ hL _
  have hT := tab_of hL
  clear hL
  have hval : ∀ (j : Nat) t v, Tryd.f4.params[j]? = some t → args[j]? = some v → Value.okWide Tryd.prog W .any base t v := hval0
  have hW' := hW
  obtain ⟨p, q, hT0, hV, rfl, hfz, hnd⟩ := hW
  have hA : DataW.TrodAll enc Tryd.prog W 0 (fun _ => true) true Tryd.f4.params.toList args.toList ds p := hT0
  rw [Tryd.params4] at hA hval
  obtain ⟨v0, vs0, d0, ds0, p0, q0, hargs, rfl, rfl, h0, r0⟩ := trodAll_cons hA
  obtain ⟨v1, vs1, d1, ds1, p1, q1, rfl, rfl, rfl, h1, r1⟩ := trodAll_cons r0
  obtain ⟨v2, vs2, d2, ds2, p2, q2, rfl, rfl, rfl, h2, r2⟩ := trodAll_cons r1
  obtain ⟨rfl, rfl, rfl⟩ := trodAll_nil r2
  obtain rfl : args = #[v0, v1, v2] := by cases args; simp_all
  obtain ⟨rfl, rfl⟩ := trodVars_none hV
  have hlt0 : ∀ x ∈ p0, x.block < W.heap.size := fun x hx => hW'.lt x (by simp [hx])
  obtain ⟨l0, hl0, hx0⟩ := open_intsv Tryd.underlying30 Tryd.underlying3 (by kernel_rfl) (hval 0 30 v0 rfl rfl) h0 hlt0
  have hlt1 : ∀ x ∈ p1, x.block < W.heap.size := fun x hx => hW'.lt x (by simp [hx])
  obtain ⟨l1, hl1, hx1⟩ := open_u64v Tryd.underlying31 Tryd.underlying52 (by kernel_rfl) (hval 1 31 v1 rfl rfl) h1 hlt1
  obtain ⟨a2, rfl, rfl, rfl⟩ := open_bool Tryd.underlying4 (hval 2 4 v2 rfl rfl) h2
  clear hT0 hval0
  refine (DirectPlain_walk W hT v0 l0 hl0 hx0 v1 l1 hl1 hx1 a2).mono fun e W' ⟨he, hb⟩ => ?_
  subst he
  exact ⟨_, rfl, law_post laidOut Tryd.underlying4 (by kernel_rfl) (by kernel_rfl) rfl hW' rfl hb⟩

theorem DirectPlain_over : Rows.directPlainRow.holds Tryd.pinned (OpenSpec.ofChange Rows.directPlainSpec) :=
  OpenClaim.holds_of_wide 4 Tryd.f4 rfl rfl rfl rfl rfl rfl rfl ⟨rfl, rfl, rfl, rfl, rfl⟩ rfl rfl rfl rfl rfl (by kernel_rfl) Tryd.func4 (by kernel_rfl)
    (of_decide_eq_true (by kernel_rfl)) (by unfold Func.isWrapper; first | (rw [if_pos (by decide +kernel)]; kernel_rfl) | (rw [if_neg (by decide +kernel)]; exact ⟨rfl, rfl⟩))
    (fun os started H enc _ => DirectPlain_lifted os started H enc)

theorem DirectPlain_holds : Rows.DirectPlainCardSaid :=
  Claim7.holds_tied_plain_at .later [] _ true _ _ DirectPlain_over (fun _ h => by cases h) (by kernel_rfl) (fun _ h => by cases h) directPlain_row_tie rfl ⟨rfl, rfl⟩ (by kernel_rfl) rfl
    (fun f fn hf hfn => by
      obtain rfl : f = 4 := Option.some.inj ((show Tryd.prog.funcNamed "pilaster/pilasterlaw08.DirectPlain" = some 4 by kernel_rfl).symm.trans hf) |>.symm
      obtain rfl : fn = Tryd.f4 := (Option.some.inj (Tryd.func4.symm.trans hfn)).symm
      exact ⟨by kernel_rfl, fun j t ht => stand_ins (by kernel_rfl) ht⟩)
    (by kernel_rfl)
#print axioms DirectPlain_holds

end Go.Proofs.YtiapopaggpnceaaDoor
