
/- The statement ValueMay: for any kind and any value the law answers true. No condition. -/

import Derived.Test.YtljepanilfbjgaaDoorKShown

import Derived.Test.YtljepanilfbjgaaDoorKOpen

import Derived.Test.YtljepanilfbjgaaDoorUDoor

import Derived.StillTailTactics

namespace Go.Proofs.YtljepanilfbjgaaDoor

open Go.RowKit Go.ChangeShapes Go.WideShapes Go.ChangeAt

set_option maxHeartbeats 4000000 in
set_option maxRecDepth 100000 in
theorem ValueMay_walk (w : World) (hU : Tryd.U8 w) (k : Int) (hk1 : -9223372036854775808 ≤ k) (hk2 : k ≤ 9223372036854775807) (v : CV) (hv : v.inInt) (hs : v.s.size ≤ maxLen) :
    Calls Tryd.prog 3 #[.int .i64 k, cv v] w fun e w' => e = .returned (.bool true) ∧ Below w.heap.size w w' := by
  have hr0_0 : Row (w.alloc (.cells #[.bool v.null, .int .i64 v.n, .string v.s] 23)) (w.heap.size) 23 [.bool v.null, .int .i64 v.n, .string v.s] := by
    have h := heap_alloc_new w (.cells #[.bool v.null, .int .i64 v.n, .string v.s] 23)
    exact h
  have hb0 : Below w.heap.size w (w.alloc (.cells #[.bool v.null, .int .i64 v.n, .string v.s] 23)) := (Below.refl _ _).alloc (Nat.le_refl _) _
  have HB0 := Lib.hid hb0
  have HR0 := Lib.hid hr0_0
  have HZ := Lib.hid (show (w.alloc (.cells #[.bool v.null, .int .i64 v.n, .string v.s] 23)).heap.size = w.heap.size + 1 by simp)
  clear hb0 hr0_0
  have HK := Lib.hid (And.intro hk1 hk2)
  have HV := Lib.hid hv
  have HS := Lib.hid hs
  have HU := Lib.hid (show Tryd.U8 _ from Utf8Tabs_below hU HB0.out)
  clear hk1 hk2 hv hs hU
  unfold cv
  go_enter Tryd.func3, Tryd.ntmps3
  go_wp2_with fail
  refine (shown_any _).mono ?_
  rintro e w1 ⟨rfl, hb1⟩
  have HU1 := Lib.hid (show Tryd.U8 _ from Utf8Tabs_below HU.out hb1)
  have HB1 := Lib.hid (below_then HB0.out hb1)
  have HS0 := Lib.hid (HR0.out.below hb1 (by have := HZ.out; omega))
  have HZ1 := Lib.hid (Nat.le_trans (Nat.le_of_eq HZ.out.symm) hb1.size)
  clear hb1 HR0
  clear HU
  go_wp2
  refine wp_region_list [.is (.bool true), .is (.bool true), .is (.int .i64 k), .is (.bool (knumber k)), .is (.int .i64 k), .is (.bool (knumber k)), .is (.bool true), .is (.bool true), .is (.bool true), .is (.int .i64 k), .is (cv v), .is (.bool (kmay k v)), .is (.int .i64 k), .is (cv v), .is (.bool (kmay k v)), .is (.bool true), .is (.bool true), .is (.bool true)] [some 7, some 8, some 9, some 10, some 11, some 12, some 13, some 14, some 15, some 16, some 17, some 18, some 19, some 20, some 21, some 22, some 23, some 4] (by kernel_rfl) (by kernel_rfl) (by kernel_rfl) rfl ⟨?_, ?_, ?_, ?_, ?_, ?_, ?_, ?_, ?_, ?_, ?_, ?_, ?_, ?_, ?_, ?_, ?_, ?_, trivial⟩ ?_
  · intro ρ W1 hb1 H
    exact gives_move rfl (H.old 5 _ (by kernel_rfl) rfl) ⟨rfl, Below.refl _ _⟩
  · intro ρ W1 hb1 H
    exact gives_move rfl (H.new 7 0 (by kernel_rfl)) ⟨rfl, Below.refl _ _⟩
  · intro ρ W1 hb1 H d hd
    have hd' : (some 8 : Option Tmp) = some d := hd
    injection hd' with hd'
    subst hd'
    refine ⟨fun _ => ?_, fun hne => absurd (H.new 8 1 (by kernel_rfl)) hne⟩
    exact gives_move rfl (H.old 0 _ (by kernel_rfl) rfl) ⟨rfl, Below.refl _ _⟩
  · intro ρ W1 hb1 H d hd
    have hd' : (some 8 : Option Tmp) = some d := hd
    injection hd' with hd'
    subst hd'
    refine ⟨fun _ => ?_, fun hne => absurd (H.new 8 1 (by kernel_rfl)) hne⟩
    have e0 : ρ (.tmp 9) = .int .i64 k := H.new 9 2 (by kernel_rfl)
    refine gives_call rfl (fun _ _ => by kernel_rfl) (H.func _) (args := #[.int .i64 k]) (by simp [e0]) ?_
    exact (knumber_any k W1 HK.out).mono fun e w' h => ⟨_, h.1, rfl, h.2⟩
  · intro ρ W1 hb1 H d hd
    have hd' : (some 8 : Option Tmp) = some d := hd
    injection hd' with hd'
    subst hd'
    refine ⟨fun _ => ?_, fun hne => absurd (H.new 8 1 (by kernel_rfl)) hne⟩
    exact gives_move rfl (H.old 0 _ (by kernel_rfl) rfl) ⟨rfl, Below.refl _ _⟩
  · intro ρ W1 hb1 H d hd
    have hd' : (some 8 : Option Tmp) = some d := hd
    injection hd' with hd'
    subst hd'
    refine ⟨fun _ => ?_, fun hne => absurd (H.new 8 1 (by kernel_rfl)) hne⟩
    have e0 : ρ (.tmp 11) = .int .i64 k := H.new 11 4 (by kernel_rfl)
    refine gives_call rfl (fun _ _ => by kernel_rfl) (H.func _) (args := #[.int .i64 k]) (by simp [e0]) ?_
    exact (rnumber12_any k W1).mono fun e w' h => ⟨_, h.1, rfl, h.2 ▸ Below.refl _ _⟩
  · intro ρ W1 hb1 H d hd
    have hd' : (some 8 : Option Tmp) = some d := hd
    injection hd' with hd'
    subst hd'
    refine ⟨fun _ => ?_, fun hne => absurd (H.new 8 1 (by kernel_rfl)) hne⟩
    exact gives_booleq rfl (H.new 10 3 (by kernel_rfl)) (H.new 12 5 (by kernel_rfl)) (beq_run _ _) ⟨by simp [facts, Fact.is], Below.refl _ _⟩
  · intro ρ W1 hb1 H
    exact gives_pick_t rfl (H.new 8 1 (by kernel_rfl)) (H.new 13 6 (by kernel_rfl)) ⟨rfl, Below.refl _ _⟩
  · intro ρ W1 hb1 H
    exact gives_move rfl (H.new 14 7 (by kernel_rfl)) ⟨rfl, Below.refl _ _⟩
  · intro ρ W1 hb1 H d hd
    have hd' : (some 15 : Option Tmp) = some d := hd
    injection hd' with hd'
    subst hd'
    refine ⟨fun _ => ?_, fun hne => absurd (H.new 15 8 (by kernel_rfl)) hne⟩
    exact gives_move rfl (H.old 0 _ (by kernel_rfl) rfl) ⟨rfl, Below.refl _ _⟩
  · intro ρ W1 hb1 H d hd
    have hd' : (some 15 : Option Tmp) = some d := hd
    injection hd' with hd'
    subst hd'
    refine ⟨fun _ => ?_, fun hne => absurd (H.new 15 8 (by kernel_rfl)) hne⟩
    exact gives_load_row (cs := [.bool v.null, .int .i64 v.n, .string v.s]) rfl (H.old 3 _ (by kernel_rfl) rfl) Tryd.underlying23 rfl (by kernel_rfl) (HS0.out.below hb1 (by have := HZ1.out; omega)) ⟨rfl, Below.refl _ _⟩
  · intro ρ W1 hb1 H d hd
    have hd' : (some 15 : Option Tmp) = some d := hd
    injection hd' with hd'
    subst hd'
    refine ⟨fun _ => ?_, fun hne => absurd (H.new 15 8 (by kernel_rfl)) hne⟩
    have e0 : ρ (.tmp 16) = .int .i64 k := H.new 16 9 (by kernel_rfl)
    have e1 : ρ (.tmp 17) = cv v := H.new 17 10 (by kernel_rfl)
    refine gives_call rfl (fun _ _ => by kernel_rfl) (H.func _) (args := #[.int .i64 k, cv v]) (by simp [e0, e1]) ?_
    exact (kmay_any k v W1 HK.out HV.out HS.out).mono fun e w' h => ⟨_, h.1, rfl, h.2⟩
  · intro ρ W1 hb1 H d hd
    have hd' : (some 15 : Option Tmp) = some d := hd
    injection hd' with hd'
    subst hd'
    refine ⟨fun _ => ?_, fun hne => absurd (H.new 15 8 (by kernel_rfl)) hne⟩
    exact gives_move rfl (H.old 0 _ (by kernel_rfl) rfl) ⟨rfl, Below.refl _ _⟩
  · intro ρ W1 hb1 H d hd
    have hd' : (some 15 : Option Tmp) = some d := hd
    injection hd' with hd'
    subst hd'
    refine ⟨fun _ => ?_, fun hne => absurd (H.new 15 8 (by kernel_rfl)) hne⟩
    exact gives_load_row (cs := [.bool v.null, .int .i64 v.n, .string v.s]) rfl (H.old 3 _ (by kernel_rfl) rfl) Tryd.underlying23 rfl (by kernel_rfl) (HS0.out.below hb1 (by have := HZ1.out; omega)) ⟨rfl, Below.refl _ _⟩
  · intro ρ W1 hb1 H d hd
    have hd' : (some 15 : Option Tmp) = some d := hd
    injection hd' with hd'
    subst hd'
    refine ⟨fun _ => ?_, fun hne => absurd (H.new 15 8 (by kernel_rfl)) hne⟩
    have e0 : ρ (.tmp 19) = .int .i64 k := H.new 19 12 (by kernel_rfl)
    have e1 : ρ (.tmp 20) = cv v := H.new 20 13 (by kernel_rfl)
    refine gives_call rfl (fun _ _ => by kernel_rfl) (H.func _) (args := #[.int .i64 k, cv v]) (by simp [e0, e1]) ?_
    exact (rmay12_any k v W1 (Utf8Tabs_below HU1.out hb1) HS.out).mono fun e w' h => ⟨_, h.1, rfl, h.2⟩
  · intro ρ W1 hb1 H d hd
    have hd' : (some 15 : Option Tmp) = some d := hd
    injection hd' with hd'
    subst hd'
    refine ⟨fun _ => ?_, fun hne => absurd (H.new 15 8 (by kernel_rfl)) hne⟩
    exact gives_booleq rfl (H.new 18 11 (by kernel_rfl)) (H.new 21 14 (by kernel_rfl)) (beq_run _ _) ⟨by simp [facts, Fact.is], Below.refl _ _⟩
  · intro ρ W1 hb1 H
    exact gives_pick_t rfl (H.new 15 8 (by kernel_rfl)) (H.new 22 15 (by kernel_rfl)) ⟨rfl, Below.refl _ _⟩
  · intro ρ W1 hb1 H
    exact gives_assign rfl (H.new 23 16 (by kernel_rfl)) ⟨rfl, Below.refl _ _⟩
  · intro vs W1 hb1 hfs
    have f17 : vs 17 = .bool true := hfs 17 (by decide)
    clear hfs
    simp only [putAll, Nat.zero_add, Nat.reduceAdd]
    generalize vs 0 = z0
    generalize vs 1 = z1
    generalize vs 2 = z2
    generalize vs 3 = z3
    generalize vs 4 = z4
    generalize vs 5 = z5
    generalize vs 6 = z6
    generalize vs 7 = z7
    generalize vs 8 = z8
    generalize vs 9 = z9
    generalize vs 10 = z10
    generalize vs 11 = z11
    generalize vs 12 = z12
    generalize vs 13 = z13
    generalize vs 14 = z14
    generalize vs 15 = z15
    generalize vs 16 = z16
    simp only [f17, Act.put, List.setIfInBounds_toArray, List.set_cons_succ, List.set_cons_zero]
    clear f17
    go_wp2
    go_ret
    exact ⟨rfl, below_then HB1.out hb1⟩

set_option maxRecDepth 100000 in
theorem ValueMay_lifted (os : Os) (started : os.Started) (H : Type) (enc : TypeId × Value → H) :
    ReturnsInHanded {} Tryd.checked os 3 .any (fun w args => (Rows.valueMaySpec.pre enc Tryd.prog Tryd.f3 [] false w args ∧ laidMetH Tryd.prog [("unicode/utf8.acceptRanges", Rows.laid_unicode_utf8_acceptRanges), ("unicode/utf8.first", Rows.laid_unicode_utf8_first)] w) ∧ sizedMet enc Tryd.prog Tryd.f3 (OpenSpec.ofChange Rows.valueMaySpec) false w args) (Rows.valueMaySpec.post enc Tryd.prog Tryd.f3 false true false false) := by
  refine returnsInHanded_of_change_and (C := Tryd.checked) (X := fun w _ => laidMetH Tryd.prog [("unicode/utf8.acceptRanges", Rows.laid_unicode_utf8_acceptRanges), ("unicode/utf8.first", Rows.laid_unicode_utf8_first)] w) (fun _ _ _ hh h => h.of_heap hh) own started (by kernel_rfl) Tryd.func3
    (ChangeSpec.witness_shaped (enc := enc) (C := Tryd.checked) (os := os) (X := fun w _ => laidMetH Tryd.prog [("unicode/utf8.acceptRanges", Rows.laid_unicode_utf8_acceptRanges), ("unicode/utf8.first", Rows.laid_unicode_utf8_first)] w) false (World.laidAll Tryd.prog os [("unicode/utf8.acceptRanges", Rows.laid_unicode_utf8_acceptRanges), ("unicode/utf8.first", Rows.laid_unicode_utf8_first)]) #[.int .i64 0, .agg #[.bool false, .int .i64 0, .string ⟨#[]⟩]] 8 (World.laidAll_os _ _ _) (World.shaped_of_ZipB (by kernel_rfl) (by kernel_rfl)) (by kernel_rfl) (by kernel_rfl) (by kernel_rfl) (by rw [MakeChecks.laidMetH_plain _ _ _ (by kernel_rfl)]; exact laidMet_laidAll _ (by kernel_rfl) (by kernel_rfl))) ?_
  intro W base args ds gs before hval0 hW _ _ hL _
  have hT := u8_of hL
  clear hL
  have hval : ∀ (j : Nat) t v, Tryd.f3.params[j]? = some t → args[j]? = some v → Value.okWide Tryd.prog W .any base t v := hval0
  have hW' := hW
  obtain ⟨p, q, hT0, hV, rfl, hfz, hnd⟩ := hW
  have hA : DataW.TrodAll enc Tryd.prog W 0 (fun _ => true) true Tryd.f3.params.toList args.toList ds p := hT0
  rw [Tryd.params3] at hA hval
  obtain ⟨v0, vs0, d0, ds0, p0, q0, hargs, rfl, rfl, h0, r0⟩ := trodAll_cons hA
  obtain ⟨v1, vs1, d1, ds1, p1, q1, rfl, rfl, rfl, h1, r1⟩ := trodAll_cons r0
  obtain ⟨rfl, rfl, rfl⟩ := trodAll_nil r1
  obtain rfl : args = #[v0, v1] := by cases args; simp_all
  obtain ⟨rfl, rfl⟩ := trodVars_none hV
  obtain ⟨a0, rfl, rfl, rfl, w0⟩ := open_int Tryd.underlying3 (hval 0 3 v0 rfl rfl) h0
  obtain ⟨c1, rfl, wi1, ws1⟩ := open_val (hval 1 23 v1 rfl rfl) h1
  clear hT0 hval0
  refine (ValueMay_walk W hT a0 (wf_i64 w0).1 (wf_i64 w0).2 c1 wi1 ws1).mono fun e W' ⟨he, hb⟩ => ?_
  subst he
  exact ⟨_, rfl, law_post laidOut Tryd.underlying4 (by kernel_rfl) (by kernel_rfl) rfl hW' rfl hb⟩

theorem ValueMay_over : Rows.valueMayRow.holds Tryd.pinned (OpenSpec.ofChange Rows.valueMaySpec) :=
  OpenClaim.holds_of_wide 3 Tryd.f3 rfl rfl rfl rfl rfl rfl rfl ⟨rfl, rfl, rfl, rfl, rfl⟩ rfl rfl rfl rfl rfl (by kernel_rfl) Tryd.func3 (by kernel_rfl)
    (of_decide_eq_true (by kernel_rfl)) (by unfold Func.isWrapper; first | (rw [if_pos (by decide +kernel)]; kernel_rfl) | (rw [if_neg (by decide +kernel)]; exact ⟨rfl, rfl⟩))
    (fun os started H enc _ => ValueMay_lifted os started H enc)

theorem ValueMay_holds : Rows.ValueMayCardSaid :=
  Claim7.holds_tied_plain_at .later [] _ true _ _ ValueMay_over (fun _ h => by cases h) (by kernel_rfl) (fun _ h => by cases h) valueMay_row_tie rfl ⟨rfl, rfl⟩ (by kernel_rfl) rfl
    (fun f fn hf hfn => by
      obtain rfl : f = 3 := Option.some.inj ((show Tryd.prog.funcNamed "pilaster/pilasterlaw12.ValueMay" = some 3 by kernel_rfl).symm.trans hf) |>.symm
      obtain rfl : fn = Tryd.f3 := (Option.some.inj (Tryd.func3.symm.trans hfn)).symm
      exact ⟨by kernel_rfl, fun j t ht => stand_ins (by kernel_rfl) ht⟩)
    (by kernel_rfl)
#print axioms ValueMay_holds

end Go.Proofs.YtljepanilfbjgaaDoor
