
/- The statement RepeatTakes: for any bytes, whether signed, the law answers true. No condition. -/

import Derived.Test.YthbmgedfhpdmpaaEShown

import Derived.Test.YthbmgedfhpdmpaaLaw

namespace Go.Proofs.Ythbmgedfhpdmpaa

open Go.RowKit Go.ChangeShapes Go.WideShapes Go.ChangeAt

set_option maxHeartbeats 4000000 in
set_option maxRecDepth 100000 in
theorem RepeatTakes_walk (w : World) (v0 : Value) (l0 : List UInt8) (hI0 : IsB l0 v0 w) (s : Bool) :
    Calls Try.prog 4 #[v0, .bool s] w fun e w' => e = .returned (.bool true) ∧ Below w.heap.size w w' := by
  obtain ⟨A0, n00, c0, rfl⟩ := IsV.shape (f := bv) hI0
  obtain ⟨hn0, -, hc0, hm0, -⟩ := IsV.parts (f := bv) hI0
  obtain ⟨n0, hmin0⟩ : ∃ n, n = min n00 100 := ⟨_, rfl⟩
  have HI := Lib.hid (IsV.take (f := bv) hI0 (show n0 ≤ n00 by omega))
  have HIL := Lib.hid (show (l0.take n0).length = n0 by rw [List.length_take]; omega)
  have hci0 : (c0 : Int) ≤ 9223372036854775807 := by unfold maxLen at hm0; omega
  have hnb0 : n0 ≤ 100 := by omega
  have hnc0 : n0 ≤ c0 := by omega
  obtain ⟨l0c, hl0c⟩ : ∃ l, l = l0.take n0 := ⟨_, rfl⟩
  rw [← hl0c] at HI HIL
  have HIM := Lib.hid (show (l0c.map (bv)).length = n0 by rw [List.length_map]; exact HIL.out)
  clear hI0 hn0 hm0 hl0c
  rcases (by omega : n00 ≤ 100 ∧ n0 = n00 ∨ 100 < n00 ∧ n0 = 100) with ⟨h6, rfl⟩ | ⟨h6, rfl⟩
  all_goals
    clear hmin0
    go_enter Try.func4, Try.ntmps4
    go_wp2_with fail
    refine (shown_any _).mono ?_
    rintro e w1 ⟨rfl, hb1⟩
    have HB1 := Lib.hid hb1
    have HJ := Lib.hid (IsB.below HI.out hb1)
    obtain ⟨-, hA, -, -, hlies⟩ := IsV.parts (f := bv) HJ.out
    have hown0 : (w1.alloc (.cells #[] 5)).ownsRow w1.heap.size 5 1 (.slice (some ⟨w1.heap.size, 0, none⟩) 0 0) 0 [] := World.ownsRow_made w1 #[] 0 (Nat.le_refl _) (by unfold maxLen; omega) (by simp)
    have hbA : Below w1.heap.size w1 (w1.alloc (.cells #[] 5)) := (Below.refl _ _).alloc (Nat.le_refl _) _
    have hlA := hlies.below hbA
    have hzz : w1.heap.size ≤ (w1.alloc (.cells #[] 5)).heap.size := by simp
    clear hb1 hlies
    go_wp2_with (at_builtin; refine wpList_join elemB rfl _ _ rfl w1.heap.size _ _ _ _ _ _ (l0c.map bv) w1 rfl rfl hA HIM.out hlA (bv_one l0c) hown0 hbA hzz (by omega) (by omega) ?_)
    intro v2 w2 hown2 hb2 _ _
    have hI2 : IsB l0c v2 w2 := isB_own (by simpa using hown2)
    have HI2 := Lib.hid hI2
    have HJ2 := Lib.hid (IsB.below HJ.out hb2)
    have HB2 := Lib.hid (below_then HB1.out hb2)
    have HLen : Hid (l0c.length ≤ 1000000) := Lib.hid (by have := HIL.out; omega)
    clear hown2 hown0 hbA hlA hzz hI2 hb2
    go_wp2_with fail
    refine (etake_any l0c v2 s w2 HI2.out HLen.out).mono ?_
    rintro e w3 ⟨r3, rfl, hr3, hb3⟩
    have HR3 := Lib.hid hr3
    have HJ3 := Lib.hid (IsB.below HJ2.out hb3)
    have HB3 := Lib.hid (below_then HB2.out hb3)
    clear hr3 hb3
    go_wp2_with fail
    refine (rtake7_any l0c _ s w3 HJ3.out HLen.out).mono ?_
    rintro e w4 ⟨s4, rfl, hs4, hb4⟩
    have hcr := textB (HR3.out.below hb4)
    have hcs := textB hs4
    have HB4 := Lib.hid (below_then HB3.out hb4)
    have hz : ((etake l0c s).2.2.2 == (etake l0c s).2.2.2) = true := by simp
    have hz2 : ((etake l0c s).1 == (etake l0c s).1) = true := by simp
    have hz3 : ((etake l0c s).2.1 == (etake l0c s).2.1) = true := by simp
    clear hs4 hb4
    go_wp2
    go_ret
    exact ⟨rfl, HB4.out⟩

set_option maxRecDepth 100000 in
theorem RepeatTakes_lifted (os : Os) (started : os.Started) (H : Type) (enc : TypeId × Value → H) :
    ReturnsInHanded {} Try.checked os 4 .any (Rows.repeatTakesSpec.pre6 enc Try.prog Try.f4 Rows.repeatTakesRow.domain false) (Rows.repeatTakesSpec.post enc Try.prog Try.f4 false true false false) := by
  refine returnsInHanded_of_change (C := Try.checked) own started (by kernel_rfl) Try.func4
    (ChangeSpec.witness6 (enc := enc) (C := Try.checked) false ⟨#[], #[.slice none 0 0, .bool false], []⟩ 8 (by kernel_rfl) (by kernel_rfl) (by kernel_rfl) (by kernel_rfl)) ?_
  intro W base args ds gs before hval0 hW hcnd _
  have hval : ∀ (j : Nat) t v, Try.f4.params[j]? = some t → args[j]? = some v → Value.okWide Try.prog W .any base t v := hval0
  have hW' := hW
  obtain ⟨p, q, hT0, hV, rfl, hfz, hnd⟩ := hW
  have hA : DataW.TrodAll enc Try.prog W 0 (fun _ => true) true Try.f4.params.toList args.toList ds p := hT0
  rw [Try.params4] at hA hval
  obtain ⟨v0, vs0, d0, ds0, p0, q0, hargs, rfl, rfl, h0, r0⟩ := trodAll_cons hA
  obtain ⟨v1, vs1, d1, ds1, p1, q1, rfl, rfl, rfl, h1, r1⟩ := trodAll_cons r0
  obtain ⟨rfl, rfl, rfl⟩ := trodAll_nil r1
  obtain rfl : args = #[v0, v1] := by cases args; simp_all
  obtain ⟨rfl, rfl⟩ := trodVars_none hV
  have hlt0 : ∀ x ∈ p0, x.block < W.heap.size := fun x hx => hW'.lt x (by simp [hx])
  obtain ⟨l0, hl0⟩ := open_bytesv Try.underlying23 Try.underlying5 (by kernel_rfl) (hval 0 23 v0 rfl rfl) h0 hlt0
  obtain ⟨a1, rfl, rfl, rfl⟩ := open_bool Try.underlying4 (hval 1 4 v1 rfl rfl) h1
  clear hT0 hval0
  refine (RepeatTakes_walk W v0 l0 hl0 a1).mono fun e W' ⟨he, hb⟩ => ?_
  subst he
  exact ⟨_, rfl, law_post laidOut Try.underlying4 (by kernel_rfl) (by kernel_rfl) rfl hW' rfl hb⟩

theorem RepeatTakes_over : Rows.repeatTakesRow.holds Try.pinned (OpenSpec.ofChange Rows.repeatTakesSpec) :=
  OpenClaim.holds_of_wide 4 Try.f4 rfl rfl rfl rfl rfl rfl rfl ⟨rfl, rfl, rfl, rfl, rfl⟩ rfl rfl rfl rfl rfl (by kernel_rfl) Try.func4 (by kernel_rfl)
    (of_decide_eq_true (by kernel_rfl)) (by unfold Func.isWrapper; first | (rw [if_pos (by decide +kernel)]; kernel_rfl) | (rw [if_neg (by decide +kernel)]; exact ⟨rfl, rfl⟩))
    (fun os started H enc _ => RepeatTakes_lifted os started H enc)

theorem RepeatTakes_holds : Rows.RepeatTakesSaid := RepeatTakes_over
#print axioms RepeatTakes_holds

end Go.Proofs.Ythbmgedfhpdmpaa
