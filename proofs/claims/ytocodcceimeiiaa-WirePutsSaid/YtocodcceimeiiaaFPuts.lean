
/- The statement WirePuts: for any fields the law answers true. No condition. Written by gen_wire_laws.py. -/

import Derived.Test.YtocodcceimeiiaaFLaw

namespace Go.Proofs.Ytocodcceimeiiaa

open Go.RowKit Go.ChangeShapes Go.WideShapes Go.ChangeAt

set_option maxHeartbeats 8000000 in
set_option maxRecDepth 100000 in
theorem WirePuts_walk (w : World) (v0 : Value) (l0 : List FN) (h0 : IsFieldsIn l0 v0 w) :
    Calls Try.prog 3 #[v0] w fun e w' => e = .returned (.bool true) ∧ Below w.heap.size w w' := by
  have H0 := Lib.hid h0
  clear h0
  go_enter Try.func3, Try.ntmps3
  go_wp2_with fail
  refine (shown19_any w).mono ?_
  rintro e w1 ⟨rfl, hb1⟩
  have HB1 := Lib.hid hb1
  clear hb1
  go_wp2_with fail
  refine (ffewK_any l0 v0 w1 (H0.out.below HB1.out)).mono ?_
  rintro e w2 ⟨v1, rfl, ho1, hb2⟩
  have HB2 := Lib.hid (below_then HB1.out hb2)
  have HL := Lib.hid (ffew_fields H0.out HB2.out ho1)
  have HLN := Lib.hid (ffewL_len l0)
  obtain ⟨l, hl⟩ : ∃ l, l = ffewL l0 := ⟨_, rfl⟩
  rw [← hl] at HL HLN
  clear hb2 ho1 hl
  go_wp2_with fail
  refine (fownK_any l v1 w2 HL.out (by have := HLN.out; omega)).mono ?_
  rintro e w3 ⟨fs, v3, rfl, he3, ho3, hf3, hb3⟩
  have HB3 := Lib.hid (below_then HB2.out hb3)
  have HFS := Lib.hid (ffields_like he3 HL.out.2 hf3 ho3)
  have HPE := Lib.hid (fputP_like he3)
  have HFL := Lib.hid (flen_like he3)
  have HL3 := Lib.hid (HL.out.below hb3)
  clear he3 ho3 hf3 hb3 HL
  go_wp2_with fail
  refine (fput_own fs v3 w3 HFS.out (by have := HLN.out; have := HFL.out; omega)).mono ?_
  rw [HPE.out]
  rintro e w4 ⟨v4, rfl, ho4, hb4⟩
  have HB4 := Lib.hid (below_then HB3.out hb4)
  have HI4 := Lib.hid (isB_own ho4)
  have HL4 := Lib.hid (HL3.out.below hb4)
  clear ho4 hb4 HL3
  go_wp2_with fail
  refine (rfput_any l v1 w4 HL4.out (by have := HLN.out; omega)).mono ?_
  rintro e w5 ⟨v5, rfl, hi5, hb5⟩
  have HB5 := Lib.hid (below_then HB4.out hb5)
  have ht4 := textB (HI4.out.below hb5)
  have ht5 := textB hi5
  clear hi5 hb5 HI4 HL4
  go_wp2
  go_ret
  exact ⟨rfl, HB5.out⟩
set_option maxRecDepth 100000 in
theorem WirePuts_lifted (os : Os) (started : os.Started) (H : Type) (enc : TypeId × Value → H) :
    ReturnsInHanded {} Try.checked os 3 .any (Rows.wirePutsSpec.pre6 enc Try.prog Try.f3 Rows.wirePutsRow.domain false) (Rows.wirePutsSpec.post enc Try.prog Try.f3 false true false false) := by
  refine returnsInHanded_of_change (C := Try.checked) own started (by kernel_rfl) Try.func3
    (ChangeSpec.witness6 (enc := enc) (C := Try.checked) false ⟨#[], #[.slice none 0 0], []⟩ 8 (by kernel_rfl) (by kernel_rfl) (by kernel_rfl) (by kernel_rfl)) ?_
  intro W base args ds gs before hval0 hW hcnd _
  have hval : ∀ (j : Nat) t v, Try.f3.params[j]? = some t → args[j]? = some v → Value.okWide Try.prog W .any base t v := hval0
  have hW' := hW
  obtain ⟨p, q, hT0, hV, rfl, hfz, hnd⟩ := hW
  have hA : DataW.TrodAll enc Try.prog W 0 (fun _ => true) true Try.f3.params.toList args.toList ds p := hT0
  rw [Try.params3] at hA hval
  obtain ⟨v0, vs0, d0, ds0, p0, q0, hargs, rfl, rfl, h0, r0⟩ := trodAll_cons hA
  obtain ⟨rfl, rfl, rfl⟩ := trodAll_nil r0
  obtain rfl : args = #[v0] := by cases args; simp_all
  obtain ⟨rfl, rfl⟩ := trodVars_none hV
  have hlt0 : ∀ x ∈ p0, x.block < W.heap.size := fun x hx => hW'.lt x (by simp [hx])
  obtain ⟨l0, hl0⟩ := open_fields (hval 0 22 v0 rfl rfl) h0 hlt0
  clear hT0 hval0
  refine (WirePuts_walk W v0 l0 hl0).mono fun e W' ⟨he, hb⟩ => ?_
  subst he
  exact ⟨_, rfl, law_post laidOut Try.underlying4 (by kernel_rfl) (by kernel_rfl) rfl hW' rfl hb⟩

theorem WirePuts_over : Rows.wirePutsRow.holds Try.pinned (OpenSpec.ofChange Rows.wirePutsSpec) :=
  OpenClaim.holds_of_wide 3 Try.f3 rfl rfl rfl rfl rfl rfl rfl ⟨rfl, rfl, rfl, rfl, rfl⟩ rfl rfl rfl rfl rfl (by kernel_rfl) Try.func3 (by kernel_rfl)
    (of_decide_eq_true (by kernel_rfl)) (by unfold Func.isWrapper; first | (rw [if_pos (by decide +kernel)]; kernel_rfl) | (rw [if_neg (by decide +kernel)]; exact ⟨rfl, rfl⟩))
    (fun os started H enc _ => WirePuts_lifted os started H enc)

theorem WirePuts_holds : Rows.WirePutsSaid := WirePuts_over
#print axioms WirePuts_holds

end Go.Proofs.Ytocodcceimeiiaa
