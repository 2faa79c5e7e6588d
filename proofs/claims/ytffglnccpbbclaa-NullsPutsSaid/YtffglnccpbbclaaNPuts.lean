
/- The statement NullsPuts: for any values the law answers true. No condition. -/

import Derived.Test.YtffglnccpbbclaaNShown

import Derived.Test.YtffglnccpbbclaaKOpenS

import Derived.Test.YtffglnccpbbclaaLaw

namespace Go.Proofs.Ytffglnccpbbclaa

open Go.RowKit Go.ChangeShapes Go.WideShapes Go.ChangeAt

set_option maxHeartbeats 4000000 in
set_option maxRecDepth 100000 in
theorem NullsPuts_walk (w : World) (v0 : Value) (l0 : List CV) (hI0 : IsR kcells l0 v0 w) (_hi0 : ∀ x ∈ l0, x.inInt) (_hs0 : ∀ x ∈ l0, x.s.size ≤ maxLen) :
    Calls Try.prog 4 #[v0] w fun e w' => e = .returned (.bool true) ∧ Below w.heap.size w w' := by
  have HI := Lib.hid hI0
  clear hI0 _hi0 _hs0
  go_enter Try.func4, Try.ntmps4
  go_wp2_with fail
  refine (shown_any _).mono ?_
  rintro e w1 ⟨rfl, hb1⟩
  have HI := Lib.hid (IsR.below HI.out hb1)
  have HB := Lib.hid hb1
  clear hb1
  go_wp2_with fail
  refine (few_is HI.out).mono ?_
  rintro e w' ⟨⟨u, rfl, hu⟩, rfl⟩
  obtain ⟨l, hl⟩ : ∃ l, l = l0.take 4200 := ⟨_, rfl⟩
  rw [← hl] at hu
  have HJL : Hid (l.length ≤ 4200) := Lib.hid (by rw [hl, List.length_take]; omega)
  have HJ := Lib.hid hu
  clear hu hl
  obtain ⟨Au, nu, cu, rfl⟩ := IsR.shape HJ.out
  obtain ⟨hnu, hAu, -, -, hlu⟩ := IsR.parts HJ.out
  have hnb : nu ≤ 4200 := by have := HJL.out; omega
  have hfl : (l.flatMap kcells).length = nu * 3 := by rw [flat_len (m := 3) (fun _ => rfl), hnu]
  have HFL := Lib.hid hfl
  have HNU := Lib.hid hnu
  have hown2 := ownW_made w1 42 3
  have hbA2 : Below w1.heap.size w1 (w1.alloc (.cells #[] 42)) := (Below.refl _ _).alloc (Nat.le_refl _) _
  have hlA2 := hlu.below hbA2
  have hzz2 := hbA2.size
  clear hlu hfl hnu
  go_wp2_with (at_builtin; refine wpList_joinW elemW rfl _ _ rfl w1.heap.size _ _ _ _ _ _ (l.flatMap kcells) w1 rfl rfl hAu HFL.out hlA2 (flat_one l) hown2 hbA2 hzz2 (by omega) (by omega) ?_)
  intro v2 w2 hown2' hb2 _ _
  have HC := Lib.hid (show IsR kcells l v2 w2 from isR_own (m := 3) (n := nu) (fun _ => rfl) (by omega) (by simpa using hown2'))
  have HJ := Lib.hid (IsR.below HJ.out hb2)
  have HB := Lib.hid (below_then HB.out hb2)
  clear hown2 hown2' hbA2 hlA2 hzz2 hb2 hAu
  go_wp2_with fail
  refine (nput_any l v2 _ HC.out (by have := HJL.out; omega)).mono ?_
  rintro e w3 ⟨a, b, rfl, ha, hb, hb3⟩
  have HJ := Lib.hid (IsR.below HJ.out hb3)
  have HC := Lib.hid (IsR.below HC.out hb3)
  have HB := Lib.hid (below_then HB.out hb3)
  have HA := Lib.hid ha
  have HBB := Lib.hid hb
  clear ha hb hb3
  go_wp2_with fail
  refine (rnput13_any l _ _ HJ.out (by have := HJL.out; omega)).mono ?_
  rintro e w4 ⟨c, d, rfl, hc, hd, hb4⟩
  have HJ := Lib.hid (IsR.below HJ.out hb4)
  have HC := Lib.hid (IsR.below HC.out hb4)
  have HA := Lib.hid (IsB.below HA.out hb4)
  have HBB := Lib.hid (IsR.below HBB.out hb4)
  have HB := Lib.hid (below_then HB.out hb4)
  have HCC := Lib.hid hc
  have HD := Lib.hid hd
  clear hc hd hb4
  have HS6 : Hid ((nputE l).2.1.length ≤ 1000000) := Lib.hid (by have := nputE_len l; have := HJL.out; omega)
  have HL6 : Hid (l.length ≤ 1000000) := Lib.hid (by have := HJL.out; omega)
  go_wp2_with fail
  refine (samerow12_any (nputE l).2.1 b d _ HBB.out HD.out HS6.out).mono ?_
  rintro e w5 ⟨rfl, hb5⟩
  have HJ := Lib.hid (IsR.below HJ.out hb5)
  have HC := Lib.hid (IsR.below HC.out hb5)
  have HA := Lib.hid (IsB.below HA.out hb5)
  have HBB := Lib.hid (IsR.below HBB.out hb5)
  have HCC := Lib.hid (IsB.below HCC.out hb5)
  have HD := Lib.hid (IsR.below HD.out hb5)
  have HB := Lib.hid (below_then HB.out hb5)
  clear hb5
  go_wp2_with fail
  refine (samerow12_any l v2 _ _ HC.out HJ.out HL6.out).mono ?_
  rintro e w6 ⟨rfl, hb6⟩
  have HJ := Lib.hid (IsR.below HJ.out hb6)
  have HC := Lib.hid (IsR.below HC.out hb6)
  have HA := Lib.hid (IsB.below HA.out hb6)
  have HBB := Lib.hid (IsR.below HBB.out hb6)
  have HCC := Lib.hid (IsB.below HCC.out hb6)
  have HD := Lib.hid (IsR.below HD.out hb6)
  have HB := Lib.hid (below_then HB.out hb6)
  clear hb6
  have hz : ((nputE l).2.2 == (nputE l).2.2) = true := by simp
  have hc1 := textB HA.out
  have hc2 := textB HCC.out
  go_wp2
  go_ret
  exact ⟨rfl, HB.out⟩

set_option maxRecDepth 100000 in
theorem NullsPuts_lifted (os : Os) (started : os.Started) (H : Type) (enc : TypeId × Value → H) :
    ReturnsInHanded {} Try.checked os 4 .any (Rows.nullsPutsSpec.pre6 enc Try.prog Try.f4 Rows.nullsPutsRow.domain false) (Rows.nullsPutsSpec.post enc Try.prog Try.f4 false true false false) := by
  refine returnsInHanded_of_change (C := Try.checked) own started (by kernel_rfl) Try.func4
    (ChangeSpec.witness6 (enc := enc) (C := Try.checked) false ⟨#[], #[.slice none 0 0], []⟩ 8 (by kernel_rfl) (by kernel_rfl) (by kernel_rfl) (by kernel_rfl)) ?_
  intro W base args ds gs before hval0 hW hcnd _
  have hval : ∀ (j : Nat) t v, Try.f4.params[j]? = some t → args[j]? = some v → Value.okWide Try.prog W .any base t v := hval0
  have hW' := hW
  obtain ⟨p, q, hT0, hV, rfl, hfz, hnd⟩ := hW
  have hA : DataW.TrodAll enc Try.prog W 0 (fun _ => true) true Try.f4.params.toList args.toList ds p := hT0
  rw [Try.params4] at hA hval
  obtain ⟨v0, vs0, d0, ds0, p0, q0, hargs, rfl, rfl, h0, r0⟩ := trodAll_cons hA
  obtain ⟨rfl, rfl, rfl⟩ := trodAll_nil r0
  obtain rfl : args = #[v0] := by cases args; simp_all
  obtain ⟨rfl, rfl⟩ := trodVars_none hV
  have hlt0 : ∀ x ∈ p0, x.block < W.heap.size := fun x hx => hW'.lt x (by simp [hx])
  obtain ⟨l0, hl0, hp0, hq0⟩ := open_vals (hval 0 22 v0 rfl rfl) h0 hlt0
  clear hT0 hval0
  refine (NullsPuts_walk W v0 l0 hl0 hp0 hq0).mono fun e W' ⟨he, hb⟩ => ?_
  subst he
  exact ⟨_, rfl, law_post laidOut Try.underlying4 (by kernel_rfl) (by kernel_rfl) rfl hW' rfl hb⟩

theorem NullsPuts_over : Rows.nullsPutsRow.holds Try.pinned (OpenSpec.ofChange Rows.nullsPutsSpec) :=
  OpenClaim.holds_of_wide 4 Try.f4 rfl rfl rfl rfl rfl rfl rfl ⟨rfl, rfl, rfl, rfl, rfl⟩ rfl rfl rfl rfl rfl (by kernel_rfl) Try.func4 (by kernel_rfl)
    (of_decide_eq_true (by kernel_rfl)) (by unfold Func.isWrapper; first | (rw [if_pos (by decide +kernel)]; kernel_rfl) | (rw [if_neg (by decide +kernel)]; exact ⟨rfl, rfl⟩))
    (fun os started H enc _ => NullsPuts_lifted os started H enc)

theorem NullsPuts_holds : Rows.NullsPutsSaid := NullsPuts_over
#print axioms NullsPuts_holds

end Go.Proofs.Ytffglnccpbbclaa
