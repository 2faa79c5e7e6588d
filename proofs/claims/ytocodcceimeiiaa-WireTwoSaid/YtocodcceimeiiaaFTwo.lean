
/- The statement WireTwo: for any two rows of fields the law answers true. No condition. Written by gen_wire_laws.py. -/

import Derived.Test.YtocodcceimeiiaaFLaw

namespace Go.Proofs.Ytocodcceimeiiaa

open Go.RowKit Go.ChangeShapes Go.WideShapes Go.ChangeAt

set_option maxHeartbeats 8000000 in
set_option maxRecDepth 100000 in
theorem WireTwo_walk (w : World) (v0 : Value) (l0 : List FN) (h0 : IsFieldsIn l0 v0 w) (v1 : Value) (l1 : List FN) (h1 : IsFieldsIn l1 v1 w) :
    Calls Try.prog 5 #[v0, v1] w fun e w' => e = .returned (.bool true) ∧ Below w.heap.size w w' := by
  have H0 := Lib.hid h0
  have H1 := Lib.hid h1
  have HN0 := Lib.hid (ffewL_len l0)
  have HN1 := Lib.hid (ffewL_len l1)
  have HTWO := Lib.hid (fputP_two (ffewL l0) (ffewL l1))
  obtain ⟨eb, heb, hE⟩ := elemFO
  have HEB := Lib.hid hE
  clear h0 h1 hE
  go_enter Try.func5, Try.ntmps5
  go_wp2_with fail
  refine (shown19_any w).mono ?_
  rintro e w1 ⟨rfl, hb⟩
  have HB := Lib.hid hb
  clear hb
  go_wp2_with fail
  refine (ffewK_any l0 v0 w1 (H0.out.below HB.out)).mono ?_
  rintro e w2 ⟨ak, rfl, ho1, hb⟩
  have HBP := HB
  have HB := Lib.hid (below_then HB.out hb)
  have HaL := Lib.hid (ffew_fields H0.out HB.out ho1)
  clear ho1 hb
  go_wp2_with fail
  refine (fownK_any (ffewL l0) ak w2 HaL.out (by have := HN0.out; omega)).mono ?_
  rintro e w3 ⟨al, au, rfl, he3, ho3, hf3, hb⟩
  have HaL := Lib.hid (IsFields.below HaL.out hb)
  have HBP := HB
  have HB := Lib.hid (below_then HB.out hb)
  have HaF := Lib.hid (ffields_like he3 HaL.out.2 hf3 ho3)
  have HaE := Lib.hid (he3)
  have HaN := Lib.hid (flen_like he3)
  have HaO := Lib.hid (ownW_base HBP.out.size ho3)
  have HaT := Lib.hid (hf3)
  clear he3 ho3 hf3 hb
  go_wp2_with fail
  refine (fput_own al au w3 HaF.out (by have := HN0.out; have := HaN.out; omega)).mono ?_
  rw [fputP_like HaE.out]
  rintro e w4 ⟨aw, rfl, ho4, hb⟩
  have HaF := Lib.hid (IsFields.below HaF.out hb)
  have HaO := Lib.hid (own_below HaO.out hb)
  have HaT := Lib.hid ((fun f hf => (HaT.out f hf).below hb))
  have HBP := HB
  have HB := Lib.hid (below_then HB.out hb)
  have HaI := Lib.hid (isBT_own ho4)
  clear ho4 hb
  go_wp2_with fail
  refine (ffewK_any l1 v1 w4 (H1.out.below HB.out)).mono ?_
  rintro e w5 ⟨bk, rfl, ho1, hb⟩
  have HaI := Lib.hid (IsBT.below HaI.out hb)
  have HBP := HB
  have HB := Lib.hid (below_then HB.out hb)
  have HbL := Lib.hid (ffew_fields H1.out HB.out ho1)
  clear ho1 hb
  go_wp2_with fail
  refine (fownK_any (ffewL l1) bk w5 HbL.out (by have := HN1.out; omega)).mono ?_
  rintro e w6 ⟨bl, bu, rfl, he3, ho3, hf3, hb⟩
  have HaI := Lib.hid (IsBT.below HaI.out hb)
  have HbL := Lib.hid (IsFields.below HbL.out hb)
  have HBP := HB
  have HB := Lib.hid (below_then HB.out hb)
  have HbF := Lib.hid (ffields_like he3 HbL.out.2 hf3 ho3)
  have HbE := Lib.hid (he3)
  have HbN := Lib.hid (flen_like he3)
  have HbO := Lib.hid (ownW_base HBP.out.size ho3)
  have HbT := Lib.hid (hf3)
  clear he3 ho3 hf3 hb
  go_wp2_with fail
  refine (fput_own bl bu w6 HbF.out (by have := HN1.out; have := HbN.out; omega)).mono ?_
  rw [fputP_like HbE.out]
  rintro e w7 ⟨bw, rfl, ho4, hb⟩
  have HaI := Lib.hid (IsBT.below HaI.out hb)
  have HbF := Lib.hid (IsFields.below HbF.out hb)
  have HbO := Lib.hid (own_below HbO.out hb)
  have HbT := Lib.hid ((fun f hf => (HbT.out f hf).below hb))
  have HBP := HB
  have HB := Lib.hid (below_then HB.out hb)
  have HbI := Lib.hid (isBT_own ho4)
  clear ho4 hb
  go_wp2_with fail
  refine (ffewK_any l0 v0 w7 (H0.out.below HB.out)).mono ?_
  rintro e w8 ⟨ck, rfl, ho1, hb⟩
  have HaI := Lib.hid (IsBT.below HaI.out hb)
  have HbI := Lib.hid (IsBT.below HbI.out hb)
  have HBP := HB
  have HB := Lib.hid (below_then HB.out hb)
  have HcL := Lib.hid (ffew_fields H0.out HB.out ho1)
  clear ho1 hb
  go_wp2_with fail
  refine (fownK_any (ffewL l0) ck w8 HcL.out (by have := HN0.out; omega)).mono ?_
  rintro e w9 ⟨cl, cu, rfl, he3, ho3, hf3, hb⟩
  have HaI := Lib.hid (IsBT.below HaI.out hb)
  have HbI := Lib.hid (IsBT.below HbI.out hb)
  have HcL := Lib.hid (IsFields.below HcL.out hb)
  have HBP := HB
  have HB := Lib.hid (below_then HB.out hb)
  have HcF := Lib.hid (ffields_like he3 HcL.out.2 hf3 ho3)
  have HcE := Lib.hid (he3)
  have HcN := Lib.hid (flen_like he3)
  have HcO := Lib.hid (ownW_base HBP.out.size ho3)
  have HcT := Lib.hid (hf3)
  clear he3 ho3 hf3 hb
  go_wp2_with fail
  refine (ffewK_any l1 v1 w9 (H1.out.below HB.out)).mono ?_
  rintro e w10 ⟨dk, rfl, ho1, hb⟩
  have HaI := Lib.hid (IsBT.below HaI.out hb)
  have HbI := Lib.hid (IsBT.below HbI.out hb)
  have HcF := Lib.hid (IsFields.below HcF.out hb)
  have HcO := Lib.hid (own_below HcO.out hb)
  have HcT := Lib.hid ((fun f hf => (HcT.out f hf).below hb))
  have HBP := HB
  have HB := Lib.hid (below_then HB.out hb)
  have HdL := Lib.hid (ffew_fields H1.out HB.out ho1)
  clear ho1 hb
  go_wp2_with fail
  refine (fownK_any (ffewL l1) dk w10 HdL.out (by have := HN1.out; omega)).mono ?_
  rintro e w11 ⟨dl, du, rfl, he3, ho3, hf3, hb⟩
  have HaI := Lib.hid (IsBT.below HaI.out hb)
  have HbI := Lib.hid (IsBT.below HbI.out hb)
  have HcF := Lib.hid (IsFields.below HcF.out hb)
  have HcO := Lib.hid (own_below HcO.out hb)
  have HcT := Lib.hid ((fun f hf => (HcT.out f hf).below hb))
  have HdL := Lib.hid (IsFields.below HdL.out hb)
  have HBP := HB
  have HB := Lib.hid (below_then HB.out hb)
  have HdF := Lib.hid (ffields_like he3 HdL.out.2 hf3 ho3)
  have HdE := Lib.hid (he3)
  have HdN := Lib.hid (flen_like he3)
  have HdO := Lib.hid (ownW_base HBP.out.size ho3)
  have HdT := Lib.hid (hf3)
  clear he3 ho3 hf3 hb
  obtain ⟨xA, xn, xc, rfl⟩ := HdF.out.1.shape
  obtain ⟨q1, q2, _, _, q5⟩ := HdF.out.1.parts
  have HQ1 := Lib.hid q1
  have HQ2 := Lib.hid q2
  have HQ5 := Lib.hid q5
  have HZ := Lib.hid HB.out.size
  have hj : cl.length + xn ≤ 1000000000 := by have := HN0.out; have := HN1.out; have := HcN.out; have := HdN.out; omega
  have HONE := Lib.hid (fields_oneW HdF.out)
  clear q1 q2 q5
  go_wp2_with (at_builtin; refine wpList_joinW HEB.out rfl _ _ rfl w.heap.size _ _ _ xA xn xc (dl.flatMap fcells) w rfl rfl HQ2.out (by rw [flat_len (m := 4) (fun _ => rfl), HQ1.out]) HQ5.out HONE.out HcO.out HB.out HZ.out hj heb ?_)
  intro v9 w9 ho9 hb9 hg9 _
  have HF9 := Lib.hid (show IsFields (cl ++ dl) v9 w9 from isFields_own (by rw [List.flatMap_append]; exact ho9) fun f hf => by
    rcases List.mem_append.1 hf with hf | hf
    · exact fat_grown (HcF.out.2 f hf) ((HcT.out f hf).grown HcO.out (by decide) hg9)
    · exact fat_grown (HdF.out.2 f hf) ((HdT.out f hf).grown HcO.out (by decide) hg9))
  have HIa := Lib.hid (HaI.out.grown HcO.out (by decide) hg9)
  have HIb := Lib.hid (HbI.out.grown HcO.out (by decide) hg9)
  have HB9 := Lib.hid hb9
  have HE9 := Lib.hid (show fputP (cl ++ dl) = fputP (ffewL l0 ++ ffewL l1) from fputP_like (by rw [List.map_append, List.map_append, HcE.out, HdE.out]))
  have HL9 := Lib.hid (show (cl ++ dl).length ≤ 200 by rw [List.length_append]; have := HN0.out; have := HN1.out; have := HcN.out; have := HdN.out; omega)
  clear ho9 hb9 hg9
  go_wp2_with fail
  refine (fput_own (cl ++ dl) v9 w9 HF9.out HL9.out).mono ?_
  rw [HE9.out]
  rintro e wz ⟨zw, rfl, ho4, hb⟩
  have HB := Lib.hid (below_then HB9.out hb)
  have HIz := Lib.hid (isB_own ho4)
  have HIa := Lib.hid (HIa.out.1.below hb)
  have HIb := Lib.hid (HIb.out.1.below hb)
  have HT2 := HTWO.out
  clear ho4 hb HaI HbI
  obtain ⟨pa, hpa⟩ : ∃ p, p = fputP (ffewL l0) := ⟨_, rfl⟩
  obtain ⟨pb, hpb⟩ : ∃ p, p = fputP (ffewL l1) := ⟨_, rfl⟩
  obtain ⟨pz, hpz⟩ : ∃ p, p = fputP (ffewL l0 ++ ffewL l1) := ⟨_, rfl⟩
  have HPA := Lib.hid (fputP_len (fun f hf => (ffewL_at H0.out.2 f hf).1) (by have := HN0.out; omega))
  have HPB := Lib.hid (fputP_len (fun f hf => (ffewL_at H1.out.2 f hf).1) (by have := HN1.out; omega))
  rw [← hpa] at HIa HT2 HPA ⊢
  rw [← hpb] at HIb HT2 HPB ⊢
  rw [← hpz] at HIz HT2 ⊢
  clear hpa hpb hpz HTWO HE9
  rcases HT2 with ⟨A, B, rfl, rfl, rfl⟩ | ⟨h, rfl⟩
  · have hta := textB HIa.out
    have htb := textB HIb.out
    have htz := textB HIz.out
    dsimp only at hta htb htz ⊢
    have hq := two_texts A B
    have HLA := Lib.hid HPA.out
    have hla : (A.length : Int) + (B.length : Int) ≤ 9223372036854775807 := by have h1 := HPA.out; have h2 := HPB.out; dsimp only at h1 h2; omega
    have hlb : ¬ 9223372036854775807 < A.length + B.length := by have h1 := HPA.out; have h2 := HPB.out; dsimp only at h1 h2; omega
    clear HPA HPB HLA
    go_wp2
    go_ret
    exact ⟨rfl, HB.out⟩
  · obtain ⟨zA, zn, zc, rfl⟩ := IsV.shape (f := bv) HIz.out
    obtain rfl : 0 = zn := (IsV.parts (f := bv) HIz.out).1
    clear HPA HPB
    obtain ⟨A, x⟩ := pa
    obtain ⟨B, y⟩ := pb
    dsimp only at h ⊢
    rcases h with h | ⟨h, h'⟩
    · subst h
      go_wp2
      go_ret
      exact ⟨rfl, HB.out⟩
    · subst h
      subst h'
      go_wp2
      go_ret
      exact ⟨rfl, HB.out⟩
set_option maxRecDepth 100000 in
theorem WireTwo_lifted (os : Os) (started : os.Started) (H : Type) (enc : TypeId × Value → H) :
    ReturnsInHanded {} Try.checked os 5 .any (Rows.wireTwoSpec.pre6 enc Try.prog Try.f5 Rows.wireTwoRow.domain false) (Rows.wireTwoSpec.post enc Try.prog Try.f5 false true false false) := by
  refine returnsInHanded_of_change (C := Try.checked) own started (by kernel_rfl) Try.func5
    (ChangeSpec.witness6 (enc := enc) (C := Try.checked) false ⟨#[], #[.slice none 0 0, .slice none 0 0], []⟩ 8 (by kernel_rfl) (by kernel_rfl) (by kernel_rfl) (by kernel_rfl)) ?_
  intro W base args ds gs before hval0 hW hcnd _
  have hval : ∀ (j : Nat) t v, Try.f5.params[j]? = some t → args[j]? = some v → Value.okWide Try.prog W .any base t v := hval0
  have hW' := hW
  obtain ⟨p, q, hT0, hV, rfl, hfz, hnd⟩ := hW
  have hA : DataW.TrodAll enc Try.prog W 0 (fun _ => true) true Try.f5.params.toList args.toList ds p := hT0
  rw [Try.params5] at hA hval
  obtain ⟨v0, vs0, d0, ds0, p0, q0, hargs, rfl, rfl, h0, r0⟩ := trodAll_cons hA
  obtain ⟨v1, vs1, d1, ds1, p1, q1, rfl, rfl, rfl, h1, r1⟩ := trodAll_cons r0
  obtain ⟨rfl, rfl, rfl⟩ := trodAll_nil r1
  obtain rfl : args = #[v0, v1] := by cases args; simp_all
  obtain ⟨rfl, rfl⟩ := trodVars_none hV
  have hlt0 : ∀ x ∈ p0, x.block < W.heap.size := fun x hx => hW'.lt x (by simp [hx])
  obtain ⟨l0, hl0⟩ := open_fields (hval 0 22 v0 rfl rfl) h0 hlt0
  have hlt1 : ∀ x ∈ p1, x.block < W.heap.size := fun x hx => hW'.lt x (by simp [hx])
  obtain ⟨l1, hl1⟩ := open_fields (hval 1 22 v1 rfl rfl) h1 hlt1
  clear hT0 hval0
  refine (WireTwo_walk W v0 l0 hl0 v1 l1 hl1).mono fun e W' ⟨he, hb⟩ => ?_
  subst he
  exact ⟨_, rfl, law_post laidOut Try.underlying4 (by kernel_rfl) (by kernel_rfl) rfl hW' rfl hb⟩

theorem WireTwo_over : Rows.wireTwoRow.holds Try.pinned (OpenSpec.ofChange Rows.wireTwoSpec) :=
  OpenClaim.holds_of_wide 5 Try.f5 rfl rfl rfl rfl rfl rfl rfl ⟨rfl, rfl, rfl, rfl, rfl⟩ rfl rfl rfl rfl rfl (by kernel_rfl) Try.func5 (by kernel_rfl)
    (of_decide_eq_true (by kernel_rfl)) (by unfold Func.isWrapper; first | (rw [if_pos (by decide +kernel)]; kernel_rfl) | (rw [if_neg (by decide +kernel)]; exact ⟨rfl, rfl⟩))
    (fun os started H enc _ => WireTwo_lifted os started H enc)

theorem WireTwo_holds : Rows.WireTwoSaid := WireTwo_over
#print axioms WireTwo_holds

end Go.Proofs.Ytocodcceimeiiaa
