
/- The statement ValueCompares: for any two values the law answers true. No condition. -/

import Derived.Test.YtljepanilfbjgaaKShown

import Derived.Test.YtljepanilfbjgaaKOpen

import Derived.Test.YtljepanilfbjgaaLaw

import Derived.StillTailTactics

namespace Go.Proofs.Ytljepanilfbjgaa

open Go.RowKit Go.ChangeShapes Go.WideShapes Go.ChangeAt

set_option maxHeartbeats 4000000 in
set_option maxRecDepth 100000 in
theorem ValueCompares_walk (w : World) (a : CV) (hai : a.inInt) (has : a.s.size ≤ maxLen) (b : CV) (hbi : b.inInt) (hbs : b.s.size ≤ maxLen) :
    Calls Try.prog 3 #[cv a, cv b] w fun e w' => e = .returned (.bool true) ∧ Below w.heap.size w w' := by
  have hr0_0 : Row (w.alloc (.cells #[.bool a.null, .int .i64 a.n, .string a.s] 23)) (w.heap.size) 23 [.bool a.null, .int .i64 a.n, .string a.s] := by
    have h := heap_alloc_new w (.cells #[.bool a.null, .int .i64 a.n, .string a.s] 23)
    exact h
  have hr1_1 : Row ((w.alloc (.cells #[.bool a.null, .int .i64 a.n, .string a.s] 23)).alloc (.cells #[.bool b.null, .int .i64 b.n, .string b.s] 23)) (w.heap.size + 1) 23 [.bool b.null, .int .i64 b.n, .string b.s] := by
    have h := heap_alloc_new (w.alloc (.cells #[.bool a.null, .int .i64 a.n, .string a.s] 23)) (.cells #[.bool b.null, .int .i64 b.n, .string b.s] 23)
    rw [show (w.alloc (.cells #[.bool a.null, .int .i64 a.n, .string a.s] 23)).heap.size = w.heap.size + 1 by simp] at h
    exact h
  have hr0_1 := hr0_0.alloc (.cells #[.bool b.null, .int .i64 b.n, .string b.s] 23)
  have hb0 : Below w.heap.size w ((w.alloc (.cells #[.bool a.null, .int .i64 a.n, .string a.s] 23)).alloc (.cells #[.bool b.null, .int .i64 b.n, .string b.s] 23)) := ((Below.refl _ _).alloc (Nat.le_refl _) _).alloc (by simp <;> omega) _
  have HB0 := Lib.hid hb0
  have HR0 := Lib.hid hr0_1
  have HR1 := Lib.hid hr1_1
  have HZ := Lib.hid (show ((w.alloc (.cells #[.bool a.null, .int .i64 a.n, .string a.s] 23)).alloc (.cells #[.bool b.null, .int .i64 b.n, .string b.s] 23)).heap.size = w.heap.size + 2 by simp)
  clear hb0 hr0_0 hr0_1 hr1_1
  have HA := Lib.hid hai
  have HSA := Lib.hid has
  have HB := Lib.hid hbi
  have HSB := Lib.hid hbs
  clear hai has hbi hbs
  unfold cv
  go_enter Try.func3, Try.ntmps3
  go_wp2_with fail
  refine (shown_any _).mono ?_
  rintro e w1 ⟨rfl, hb1⟩
  have HB1 := Lib.hid (below_then HB0.out hb1)
  have HS0 := Lib.hid (HR0.out.below hb1 (by have := HZ.out; omega))
  have HS1 := Lib.hid (HR1.out.below hb1 (by have := HZ.out; omega))
  have HZ1 := Lib.hid (Nat.le_trans (Nat.le_of_eq HZ.out.symm) hb1.size)
  clear hb1 HR0 HR1
  go_wp2
  refine wp_region_list [.is (.bool true), .is (.bool true), .is (cv a), .is (cv b), .is (.int .i64 (kcmp a b)), .is (cv a), .is (cv b), .is (.int .i64 (kcmp a b)), .is (.bool true), .is (.bool true), .is (.bool true), .is (cv a), .is (cv b), .is (.bool ((kcmp a b) == 0)), .is (cv a), .is (cv b), .is (.int .i64 (kcmp a b)), .is (.bool ((kcmp a b) == 0)), .is (.bool true), .is (.bool true), .is (.bool true)] [some 7, some 8, some 9, some 10, some 11, some 12, some 13, some 14, some 15, some 16, some 17, some 18, some 19, some 20, some 21, some 22, some 23, some 24, some 25, some 26, some 4] (by kernel_rfl) (by kernel_rfl) (by kernel_rfl) rfl ⟨?_, ?_, ?_, ?_, ?_, ?_, ?_, ?_, ?_, ?_, ?_, ?_, ?_, ?_, ?_, ?_, ?_, ?_, ?_, ?_, ?_, trivial⟩ ?_
  · intro ρ W1 hb1 H
    exact gives_move rfl (H.old 5 _ (by kernel_rfl) rfl) ⟨rfl, Below.refl _ _⟩
  · intro ρ W1 hb1 H
    exact gives_move rfl (H.new 7 0 (by kernel_rfl)) ⟨rfl, Below.refl _ _⟩
  · intro ρ W1 hb1 H d hd
    have hd' : (some 8 : Option Tmp) = some d := hd
    injection hd' with hd'
    subst hd'
    refine ⟨fun _ => ?_, fun hne => absurd (H.new 8 1 (by kernel_rfl)) hne⟩
    exact gives_load_row (cs := [.bool a.null, .int .i64 a.n, .string a.s]) rfl (H.old 2 _ (by kernel_rfl) rfl) Try.underlying23 rfl (by kernel_rfl) (HS0.out.below hb1 (by have := HZ1.out; omega)) ⟨rfl, Below.refl _ _⟩
  · intro ρ W1 hb1 H d hd
    have hd' : (some 8 : Option Tmp) = some d := hd
    injection hd' with hd'
    subst hd'
    refine ⟨fun _ => ?_, fun hne => absurd (H.new 8 1 (by kernel_rfl)) hne⟩
    exact gives_load_row (cs := [.bool b.null, .int .i64 b.n, .string b.s]) rfl (H.old 3 _ (by kernel_rfl) rfl) Try.underlying23 rfl (by kernel_rfl) (HS1.out.below hb1 (by have := HZ1.out; omega)) ⟨rfl, Below.refl _ _⟩
  · intro ρ W1 hb1 H d hd
    have hd' : (some 8 : Option Tmp) = some d := hd
    injection hd' with hd'
    subst hd'
    refine ⟨fun _ => ?_, fun hne => absurd (H.new 8 1 (by kernel_rfl)) hne⟩
    have e0 : ρ (.tmp 9) = cv a := H.new 9 2 (by kernel_rfl)
    have e1 : ρ (.tmp 10) = cv b := H.new 10 3 (by kernel_rfl)
    refine gives_call rfl (fun _ _ => by kernel_rfl) (H.func _) (args := #[cv a, cv b]) (by simp [e0, e1]) ?_
    exact (kcmp_any a b W1 HA.out HB.out HSA.out HSB.out).mono fun e w' h => ⟨_, h.1, rfl, h.2⟩
  · intro ρ W1 hb1 H d hd
    have hd' : (some 8 : Option Tmp) = some d := hd
    injection hd' with hd'
    subst hd'
    refine ⟨fun _ => ?_, fun hne => absurd (H.new 8 1 (by kernel_rfl)) hne⟩
    exact gives_load_row (cs := [.bool a.null, .int .i64 a.n, .string a.s]) rfl (H.old 2 _ (by kernel_rfl) rfl) Try.underlying23 rfl (by kernel_rfl) (HS0.out.below hb1 (by have := HZ1.out; omega)) ⟨rfl, Below.refl _ _⟩
  · intro ρ W1 hb1 H d hd
    have hd' : (some 8 : Option Tmp) = some d := hd
    injection hd' with hd'
    subst hd'
    refine ⟨fun _ => ?_, fun hne => absurd (H.new 8 1 (by kernel_rfl)) hne⟩
    exact gives_load_row (cs := [.bool b.null, .int .i64 b.n, .string b.s]) rfl (H.old 3 _ (by kernel_rfl) rfl) Try.underlying23 rfl (by kernel_rfl) (HS1.out.below hb1 (by have := HZ1.out; omega)) ⟨rfl, Below.refl _ _⟩
  · intro ρ W1 hb1 H d hd
    have hd' : (some 8 : Option Tmp) = some d := hd
    injection hd' with hd'
    subst hd'
    refine ⟨fun _ => ?_, fun hne => absurd (H.new 8 1 (by kernel_rfl)) hne⟩
    have e0 : ρ (.tmp 12) = cv a := H.new 12 5 (by kernel_rfl)
    have e1 : ρ (.tmp 13) = cv b := H.new 13 6 (by kernel_rfl)
    refine gives_call rfl (fun _ _ => by kernel_rfl) (H.func _) (args := #[cv a, cv b]) (by simp [e0, e1]) ?_
    exact (rcmp12_any a b W1).mono fun e w' h => ⟨_, h.1, rfl, h.2⟩
  · intro ρ W1 hb1 H d hd
    have hd' : (some 8 : Option Tmp) = some d := hd
    injection hd' with hd'
    subst hd'
    refine ⟨fun _ => ?_, fun hne => absurd (H.new 8 1 (by kernel_rfl)) hne⟩
    exact gives_inteq rfl (H.new 11 4 (by kernel_rfl)) (H.new 14 7 (by kernel_rfl)) ⟨by simp [facts, Fact.is], Below.refl _ _⟩
  · intro ρ W1 hb1 H
    exact gives_pick_t rfl (H.new 8 1 (by kernel_rfl)) (H.new 15 8 (by kernel_rfl)) ⟨rfl, Below.refl _ _⟩
  · intro ρ W1 hb1 H
    exact gives_move rfl (H.new 16 9 (by kernel_rfl)) ⟨rfl, Below.refl _ _⟩
  · intro ρ W1 hb1 H d hd
    have hd' : (some 17 : Option Tmp) = some d := hd
    injection hd' with hd'
    subst hd'
    refine ⟨fun _ => ?_, fun hne => absurd (H.new 17 10 (by kernel_rfl)) hne⟩
    exact gives_load_row (cs := [.bool a.null, .int .i64 a.n, .string a.s]) rfl (H.old 2 _ (by kernel_rfl) rfl) Try.underlying23 rfl (by kernel_rfl) (HS0.out.below hb1 (by have := HZ1.out; omega)) ⟨rfl, Below.refl _ _⟩
  · intro ρ W1 hb1 H d hd
    have hd' : (some 17 : Option Tmp) = some d := hd
    injection hd' with hd'
    subst hd'
    refine ⟨fun _ => ?_, fun hne => absurd (H.new 17 10 (by kernel_rfl)) hne⟩
    exact gives_load_row (cs := [.bool b.null, .int .i64 b.n, .string b.s]) rfl (H.old 3 _ (by kernel_rfl) rfl) Try.underlying23 rfl (by kernel_rfl) (HS1.out.below hb1 (by have := HZ1.out; omega)) ⟨rfl, Below.refl _ _⟩
  · intro ρ W1 hb1 H d hd
    have hd' : (some 17 : Option Tmp) = some d := hd
    injection hd' with hd'
    subst hd'
    refine ⟨fun _ => ?_, fun hne => absurd (H.new 17 10 (by kernel_rfl)) hne⟩
    have e0 : ρ (.tmp 18) = cv a := H.new 18 11 (by kernel_rfl)
    have e1 : ρ (.tmp 19) = cv b := H.new 19 12 (by kernel_rfl)
    refine gives_call rfl (fun _ _ => by kernel_rfl) (H.func _) (args := #[cv a, cv b]) (by simp [e0, e1]) ?_
    exact (ksame_any a b W1 HA.out HB.out HSA.out HSB.out).mono fun e w' h => ⟨_, h.1, rfl, h.2⟩
  · intro ρ W1 hb1 H d hd
    have hd' : (some 17 : Option Tmp) = some d := hd
    injection hd' with hd'
    subst hd'
    refine ⟨fun _ => ?_, fun hne => absurd (H.new 17 10 (by kernel_rfl)) hne⟩
    exact gives_load_row (cs := [.bool a.null, .int .i64 a.n, .string a.s]) rfl (H.old 2 _ (by kernel_rfl) rfl) Try.underlying23 rfl (by kernel_rfl) (HS0.out.below hb1 (by have := HZ1.out; omega)) ⟨rfl, Below.refl _ _⟩
  · intro ρ W1 hb1 H d hd
    have hd' : (some 17 : Option Tmp) = some d := hd
    injection hd' with hd'
    subst hd'
    refine ⟨fun _ => ?_, fun hne => absurd (H.new 17 10 (by kernel_rfl)) hne⟩
    exact gives_load_row (cs := [.bool b.null, .int .i64 b.n, .string b.s]) rfl (H.old 3 _ (by kernel_rfl) rfl) Try.underlying23 rfl (by kernel_rfl) (HS1.out.below hb1 (by have := HZ1.out; omega)) ⟨rfl, Below.refl _ _⟩
  · intro ρ W1 hb1 H d hd
    have hd' : (some 17 : Option Tmp) = some d := hd
    injection hd' with hd'
    subst hd'
    refine ⟨fun _ => ?_, fun hne => absurd (H.new 17 10 (by kernel_rfl)) hne⟩
    have e0 : ρ (.tmp 21) = cv a := H.new 21 14 (by kernel_rfl)
    have e1 : ρ (.tmp 22) = cv b := H.new 22 15 (by kernel_rfl)
    refine gives_call rfl (fun _ _ => by kernel_rfl) (H.func _) (args := #[cv a, cv b]) (by simp [e0, e1]) ?_
    exact (rcmp12_any a b W1).mono fun e w' h => ⟨_, h.1, rfl, h.2⟩
  · intro ρ W1 hb1 H d hd
    have hd' : (some 17 : Option Tmp) = some d := hd
    injection hd' with hd'
    subst hd'
    refine ⟨fun _ => ?_, fun hne => absurd (H.new 17 10 (by kernel_rfl)) hne⟩
    exact gives_inteq rfl (H.new 23 16 (by kernel_rfl)) (H.const _) ⟨rfl, Below.refl _ _⟩
  · intro ρ W1 hb1 H d hd
    have hd' : (some 17 : Option Tmp) = some d := hd
    injection hd' with hd'
    subst hd'
    refine ⟨fun _ => ?_, fun hne => absurd (H.new 17 10 (by kernel_rfl)) hne⟩
    exact gives_booleq rfl (H.new 20 13 (by kernel_rfl)) (H.new 24 17 (by kernel_rfl)) (beq_run _ _) ⟨by simp [facts, Fact.is], Below.refl _ _⟩
  · intro ρ W1 hb1 H
    exact gives_pick_t rfl (H.new 17 10 (by kernel_rfl)) (H.new 25 18 (by kernel_rfl)) ⟨rfl, Below.refl _ _⟩
  · intro ρ W1 hb1 H
    exact gives_assign rfl (H.new 26 19 (by kernel_rfl)) ⟨rfl, Below.refl _ _⟩
  · intro vs W1 hb1 hfs
    have f20 : vs 20 = .bool true := hfs 20 (by decide)
    clear hfs
    simp only [putAll, Nat.zero_add, Nat.reduceAdd]
    generalize vs 0 = z0
    generalize vs 1 = z1
    generalize vs 2 = z2
    generalize vs 3 = z3
    generalize vs 4 = z4
    generalize vs 5 = z5
    generalize vs 6 = z6
    generalize vs 7 = z7
    generalize vs 8 = z8
    generalize vs 9 = z9
    generalize vs 10 = z10
    generalize vs 11 = z11
    generalize vs 12 = z12
    generalize vs 13 = z13
    generalize vs 14 = z14
    generalize vs 15 = z15
    generalize vs 16 = z16
    generalize vs 17 = z17
    generalize vs 18 = z18
    generalize vs 19 = z19
    simp only [f20, Act.put, List.setIfInBounds_toArray, List.set_cons_succ, List.set_cons_zero]
    clear f20
    go_wp2
    go_ret
    exact ⟨rfl, below_then HB1.out hb1⟩

set_option maxRecDepth 100000 in
theorem ValueCompares_lifted (os : Os) (started : os.Started) (H : Type) (enc : TypeId × Value → H) :
    ReturnsInHanded {} Try.checked os 3 .any (Rows.valueComparesSpec.pre6 enc Try.prog Try.f3 Rows.valueComparesRow.domain false) (Rows.valueComparesSpec.post enc Try.prog Try.f3 false true false false) := by
  refine returnsInHanded_of_change (C := Try.checked) own started (by kernel_rfl) Try.func3
    (ChangeSpec.witness6 (enc := enc) (C := Try.checked) false ⟨#[], #[.agg #[.bool false, .int .i64 0, .string ⟨#[]⟩], .agg #[.bool false, .int .i64 0, .string ⟨#[]⟩]], []⟩ 8 (by kernel_rfl) (by kernel_rfl) (by kernel_rfl) (by kernel_rfl)) ?_
  intro W base args ds gs before hval0 hW hcnd _
  have hval : ∀ (j : Nat) t v, Try.f3.params[j]? = some t → args[j]? = some v → Value.okWide Try.prog W .any base t v := hval0
  have hW' := hW
  obtain ⟨p, q, hT0, hV, rfl, hfz, hnd⟩ := hW
  have hA : DataW.TrodAll enc Try.prog W 0 (fun _ => true) true Try.f3.params.toList args.toList ds p := hT0
  rw [Try.params3] at hA hval
  obtain ⟨v0, vs0, d0, ds0, p0, q0, hargs, rfl, rfl, h0, r0⟩ := trodAll_cons hA
  obtain ⟨v1, vs1, d1, ds1, p1, q1, rfl, rfl, rfl, h1, r1⟩ := trodAll_cons r0
  obtain ⟨rfl, rfl, rfl⟩ := trodAll_nil r1
  obtain rfl : args = #[v0, v1] := by cases args; simp_all
  obtain ⟨rfl, rfl⟩ := trodVars_none hV
  obtain ⟨c0, rfl, wi0, ws0⟩ := open_val (hval 0 23 v0 rfl rfl) h0
  obtain ⟨c1, rfl, wi1, ws1⟩ := open_val (hval 1 23 v1 rfl rfl) h1
  clear hT0 hval0
  refine (ValueCompares_walk W c0 wi0 ws0 c1 wi1 ws1).mono fun e W' ⟨he, hb⟩ => ?_
  subst he
  exact ⟨_, rfl, law_post laidOut Try.underlying4 (by kernel_rfl) (by kernel_rfl) rfl hW' rfl hb⟩

theorem ValueCompares_over : Rows.valueComparesRow.holds Try.pinned (OpenSpec.ofChange Rows.valueComparesSpec) :=
  OpenClaim.holds_of_wide 3 Try.f3 rfl rfl rfl rfl rfl rfl rfl ⟨rfl, rfl, rfl, rfl, rfl⟩ rfl rfl rfl rfl rfl (by kernel_rfl) Try.func3 (by kernel_rfl)
    (of_decide_eq_true (by kernel_rfl)) (by unfold Func.isWrapper; first | (rw [if_pos (by decide +kernel)]; kernel_rfl) | (rw [if_neg (by decide +kernel)]; exact ⟨rfl, rfl⟩))
    (fun os started H enc _ => ValueCompares_lifted os started H enc)

theorem ValueCompares_holds : Rows.ValueComparesSaid := ValueCompares_over
#print axioms ValueCompares_holds

end Go.Proofs.Ytljepanilfbjgaa
