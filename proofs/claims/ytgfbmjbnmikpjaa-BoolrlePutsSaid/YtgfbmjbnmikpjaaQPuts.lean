
/- The statement BoolrlePuts: for any truths the law answers true. No condition. -/

import Derived.Test.YtgfbmjbnmikpjaaQShown

import Derived.Test.YtgfbmjbnmikpjaaLaw

namespace Go.Proofs.Ytgfbmjbnmikpjaa

open Go.RowKit Go.ChangeShapes Go.WideShapes Go.ChangeAt

set_option maxHeartbeats 4000000 in
set_option maxRecDepth 100000 in
theorem BoolrlePuts_walk (w : World) (v0 : Value) (l0 : List Bool) (hI0 : IsV Value.bool l0 v0 w) :
    Calls Try.prog 3 #[v0] w fun e w' => e = .returned (.bool true) ∧ Below w.heap.size w w' := by
  have HI0 := Lib.hid hI0
  clear hI0
  go_enter Try.func3, Try.ntmps3
  go_wp2_with fail
  refine (shown_any _).mono ?_
  rintro e w1 ⟨rfl, hb1⟩
  have HB1 := Lib.hid hb1
  have HJ0 := Lib.hid (HI0.out.below hb1)
  clear hb1
  go_wp2_with fail
  refine (fewL_is HJ0.out).mono ?_
  rintro e w' ⟨⟨u, rfl, hu⟩, rfl⟩
  obtain ⟨l, hl⟩ : ∃ l, l = l0.take 4200 := ⟨_, rfl⟩
  rw [← hl] at hu
  have HL : Hid (l.length ≤ 4200) := Lib.hid (by rw [hl, List.length_take]; omega)
  have HU1 := Lib.hid hu
  clear hu hl
  go_wp2_with fail
  refine (qput_any l u w1 HU1.out (by have := HL.out; omega)).mono ?_
  rintro e w3 ⟨x3, rfl, hx3, hb3⟩
  have HX3 := Lib.hid hx3
  have HU3 := Lib.hid (HU1.out.below hb3)
  have HB3 := Lib.hid (below_then HB1.out hb3)
  clear hx3 hb3
  go_wp2_with fail
  refine (rqput_any l u w3 HU3.out (by have := HL.out; omega)).mono ?_
  rintro e w4 ⟨y4, rfl, hy4, hb4⟩
  have hcx := textB (HX3.out.below hb4)
  have hcy := textB hy4
  have HU4 := Lib.hid (HU3.out.below hb4)
  have HB4 := Lib.hid (below_then HB3.out hb4)
  have hz : ((qputE l).2 == (qputE l).2) = true := by simp
  clear hy4 hb4
  go_wp2_with fail
  refine (qcount_any l u w4 HU4.out (by have := HL.out; omega)).mono ?_
  rintro e w5 ⟨rfl, hb5⟩
  have HU5 := Lib.hid (HU4.out.below hb5)
  have HB5 := Lib.hid (below_then HB4.out hb5)
  clear hb5
  go_wp2_with fail
  refine (rcountL_any l u w5 HU5.out (by have := HL.out; omega)).mono ?_
  rintro e w6 ⟨rfl, rfl⟩
  have hz2 : ((qcount l : Int) == (qcount l : Int)) = true := by simp
  go_wp2
  go_ret
  exact ⟨rfl, HB5.out⟩

set_option maxRecDepth 100000 in
theorem BoolrlePuts_lifted (os : Os) (started : os.Started) (H : Type) (enc : TypeId × Value → H) :
    ReturnsInHanded {} Try.checked os 3 .any (Rows.boolrlePutsSpec.pre6 enc Try.prog Try.f3 Rows.boolrlePutsRow.domain false) (Rows.boolrlePutsSpec.post enc Try.prog Try.f3 false true false false) := by
  refine returnsInHanded_of_change (C := Try.checked) own started (by kernel_rfl) Try.func3
    (ChangeSpec.witness6 (enc := enc) (C := Try.checked) false ⟨#[], #[.slice none 0 0], []⟩ 8 (by kernel_rfl) (by kernel_rfl) (by kernel_rfl) (by kernel_rfl)) ?_
  intro W base args ds gs before hval0 hW hcnd _
  have hval : ∀ (j : Nat) t v, Try.f3.params[j]? = some t → args[j]? = some v → Value.okWide Try.prog W .any base t v := hval0
  have hW' := hW
  obtain ⟨p, q, hT0, hV, rfl, hfz, hnd⟩ := hW
  have hA : DataW.TrodAll enc Try.prog W 0 (fun _ => true) true Try.f3.params.toList args.toList ds p := hT0
  rw [Try.params3] at hA hval
  obtain ⟨v0, vs0, d0, ds0, p0, q0, hargs, rfl, rfl, h0, r0⟩ := trodAll_cons hA
  obtain ⟨rfl, rfl, rfl⟩ := trodAll_nil r0
  obtain rfl : args = #[v0] := by cases args; simp_all
  obtain ⟨rfl, rfl⟩ := trodVars_none hV
  have hlt0 : ∀ x ∈ p0, x.block < W.heap.size := fun x hx => hW'.lt x (by simp [hx])
  obtain ⟨l0, hl0⟩ := open_truths Try.underlying22 Try.underlying4 (by kernel_rfl) (hval 0 22 v0 rfl rfl) h0 hlt0
  clear hT0 hval0
  refine (BoolrlePuts_walk W v0 l0 hl0).mono fun e W' ⟨he, hb⟩ => ?_
  subst he
  exact ⟨_, rfl, law_post laidOut Try.underlying4 (by kernel_rfl) (by kernel_rfl) rfl hW' rfl hb⟩

theorem BoolrlePuts_over : Rows.boolrlePutsRow.holds Try.pinned (OpenSpec.ofChange Rows.boolrlePutsSpec) :=
  OpenClaim.holds_of_wide 3 Try.f3 rfl rfl rfl rfl rfl rfl rfl ⟨rfl, rfl, rfl, rfl, rfl⟩ rfl rfl rfl rfl rfl (by kernel_rfl) Try.func3 (by kernel_rfl)
    (of_decide_eq_true (by kernel_rfl)) (by unfold Func.isWrapper; first | (rw [if_pos (by decide +kernel)]; kernel_rfl) | (rw [if_neg (by decide +kernel)]; exact ⟨rfl, rfl⟩))
    (fun os started H enc _ => BoolrlePuts_lifted os started H enc)

theorem BoolrlePuts_holds : Rows.BoolrlePutsSaid := BoolrlePuts_over
#print axioms BoolrlePuts_holds

end Go.Proofs.Ytgfbmjbnmikpjaa
