
/- The statement NullsTakes: for any bytes and any number the law answers true. No condition. -/

import Derived.Test.YtffglnccpbbclaaNShown

import Derived.Test.YtffglnccpbbclaaKOpenS

import Derived.Test.YtffglnccpbbclaaLaw

namespace Go.Proofs.Ytffglnccpbbclaa

open Go.RowKit Go.ChangeShapes Go.WideShapes Go.ChangeAt

set_option maxHeartbeats 4000000 in
set_option maxRecDepth 100000 in
theorem NullsTakes_walk (w : World) (v0 : Value) (l0 : List UInt8) (hI0 : IsB l0 v0 w) (many : Int) (_m0 : -9223372036854775808 ≤ many) (_m1 : many ≤ 9223372036854775807) :
    Calls Try.prog 5 #[v0, .int .i64 many] w fun e w' => e = .returned (.bool true) ∧ Below w.heap.size w w' := by
  obtain ⟨A0, n00, c0, rfl⟩ := IsV.shape (f := bv) hI0
  obtain ⟨hn0, -, hc0, hm0, -⟩ := IsV.parts (f := bv) hI0
  obtain ⟨n0, hmin0⟩ : ∃ n, n = min n00 600 := ⟨_, rfl⟩
  have HI := Lib.hid (IsV.take (f := bv) hI0 (show n0 ≤ n00 by omega))
  have HIL := Lib.hid (show (l0.take n0).length = n0 by rw [List.length_take]; omega)
  have hci0 : (c0 : Int) ≤ 9223372036854775807 := by unfold maxLen at hm0; omega
  have hnb0 : n0 ≤ 600 := by omega
  have hnc0 : n0 ≤ c0 := by omega
  obtain ⟨l0c, hl0c⟩ : ∃ l, l = l0.take n0 := ⟨_, rfl⟩
  rw [← hl0c] at HI HIL
  clear hI0 hn0 hm0 hl0c
  have HIM := Lib.hid (show (l0c.map bv).length = n0 by rw [List.length_map]; exact HIL.out)
  rcases (by omega : n00 ≤ 600 ∧ n0 = n00 ∨ 600 < n00 ∧ n0 = 600) with ⟨h6, rfl⟩ | ⟨h6, rfl⟩
  all_goals
    clear hmin0
    go_enter Try.func5, Try.ntmps5
    go_wp2_with fail
    refine (shown_any _).mono ?_
    rintro e w1 ⟨rfl, hb1⟩
    have HI := Lib.hid (IsB.below HI.out hb1)
    have HB := Lib.hid hb1
    clear hb1
    obtain ⟨-, hA2, -, -, hlies2⟩ := IsV.parts (f := bv) HI.out
    have hown2 := ownW_made w1 5 1
    have hbA2 : Below w1.heap.size w1 (w1.alloc (.cells #[] 5)) := (Below.refl _ _).alloc (Nat.le_refl _) _
    have hlA2 := hlies2.below hbA2
    have hzz2 := hbA2.size
    clear hlies2
    go_wp2_with (at_builtin; refine wpList_join elemB rfl _ _ rfl w1.heap.size _ _ _ _ _ _ (l0c.map bv) w1 rfl rfl hA2 HIM.out hlA2 (bv_one l0c) hown2 hbA2 hzz2 (by omega) (by omega) ?_)
    intro v2 w2 hown2' hb2 _ _
    have HC := Lib.hid (show IsB l0c v2 w2 from isB_own (by simpa using hown2'))
    have HI := Lib.hid (IsB.below HI.out hb2)
    have HB := Lib.hid (below_then HB.out hb2)
    clear hown2 hown2' hbA2 hlA2 hzz2 hb2 hA2
    go_wp2_with fail
    refine (ntake_any l0c v2 many _ HC.out (by have := HIL.out; omega)).mono ?_
    rintro e w3 ⟨a, rfl, ha, hb3⟩
    have HI := Lib.hid (IsB.below HI.out hb3)
    have HC := Lib.hid (IsB.below HC.out hb3)
    have HB := Lib.hid (below_then HB.out hb3)
    have HA := Lib.hid ha
    clear ha hb3
    go_wp2_with fail
    refine (rntake13_any l0c _ many _ HI.out (by have := HIL.out; omega)).mono ?_
    rintro e w4 ⟨b, rfl, hb, hb4⟩
    have HI := Lib.hid (IsB.below HI.out hb4)
    have HC := Lib.hid (IsB.below HC.out hb4)
    have HA := Lib.hid (IsV.below HA.out hb4)
    have HB := Lib.hid (below_then HB.out hb4)
    have HBB := Lib.hid hb
    clear hb hb4
    go_wp2_with fail
    refine (sameL_any (ntakeE l0c many).1 (ntakeE l0c many).1 a b _ HA.out HBB.out (ntakeE_len _ _) (ntakeE_len _ _)).mono ?_
    rintro e w5 ⟨rfl, hb5⟩
    have HI := Lib.hid (IsB.below HI.out hb5)
    have HC := Lib.hid (IsB.below HC.out hb5)
    have HA := Lib.hid (IsV.below HA.out hb5)
    have HBB := Lib.hid (IsV.below HBB.out hb5)
    have HB := Lib.hid (below_then HB.out hb5)
    clear hb5
    have hz : ((ntakeE l0c many).2 == (ntakeE l0c many).2) = true := by simp
    have hz2 : ((ntakeE l0c many).1 == (ntakeE l0c many).1) = true := by simp
    go_wp2
    go_ret
    exact ⟨rfl, HB.out⟩

set_option maxRecDepth 100000 in
theorem NullsTakes_lifted (os : Os) (started : os.Started) (H : Type) (enc : TypeId × Value → H) :
    ReturnsInHanded {} Try.checked os 5 .any (Rows.nullsTakesSpec.pre6 enc Try.prog Try.f5 Rows.nullsTakesRow.domain false) (Rows.nullsTakesSpec.post enc Try.prog Try.f5 false true false false) := by
  refine returnsInHanded_of_change (C := Try.checked) own started (by kernel_rfl) Try.func5
    (ChangeSpec.witness6 (enc := enc) (C := Try.checked) false ⟨#[], #[.slice none 0 0, .int .i64 0], []⟩ 8 (by kernel_rfl) (by kernel_rfl) (by kernel_rfl) (by kernel_rfl)) ?_
  intro W base args ds gs before hval0 hW hcnd _
  have hval : ∀ (j : Nat) t v, Try.f5.params[j]? = some t → args[j]? = some v → Value.okWide Try.prog W .any base t v := hval0
  have hW' := hW
  obtain ⟨p, q, hT0, hV, rfl, hfz, hnd⟩ := hW
  have hA : DataW.TrodAll enc Try.prog W 0 (fun _ => true) true Try.f5.params.toList args.toList ds p := hT0
  rw [Try.params5] at hA hval
  obtain ⟨v0, vs0, d0, ds0, p0, q0, hargs, rfl, rfl, h0, r0⟩ := trodAll_cons hA
  obtain ⟨v1, vs1, d1, ds1, p1, q1, rfl, rfl, rfl, h1, r1⟩ := trodAll_cons r0
  obtain ⟨rfl, rfl, rfl⟩ := trodAll_nil r1
  obtain rfl : args = #[v0, v1] := by cases args; simp_all
  obtain ⟨rfl, rfl⟩ := trodVars_none hV
  have hlt0 : ∀ x ∈ p0, x.block < W.heap.size := fun x hx => hW'.lt x (by simp [hx])
  obtain ⟨l0, hl0⟩ := open_bytesv Try.underlying34 Try.underlying5 (by kernel_rfl) (hval 0 34 v0 rfl rfl) h0 hlt0
  obtain ⟨a1, rfl, rfl, rfl, w1⟩ := open_int Try.underlying3 (hval 1 3 v1 rfl rfl) h1
  clear hT0 hval0
  refine (NullsTakes_walk W v0 l0 hl0 a1 (wf_i64 w1).1 (wf_i64 w1).2).mono fun e W' ⟨he, hb⟩ => ?_
  subst he
  exact ⟨_, rfl, law_post laidOut Try.underlying4 (by kernel_rfl) (by kernel_rfl) rfl hW' rfl hb⟩

theorem NullsTakes_over : Rows.nullsTakesRow.holds Try.pinned (OpenSpec.ofChange Rows.nullsTakesSpec) :=
  OpenClaim.holds_of_wide 5 Try.f5 rfl rfl rfl rfl rfl rfl rfl ⟨rfl, rfl, rfl, rfl, rfl⟩ rfl rfl rfl rfl rfl (by kernel_rfl) Try.func5 (by kernel_rfl)
    (of_decide_eq_true (by kernel_rfl)) (by unfold Func.isWrapper; first | (rw [if_pos (by decide +kernel)]; kernel_rfl) | (rw [if_neg (by decide +kernel)]; exact ⟨rfl, rfl⟩))
    (fun os started H enc _ => NullsTakes_lifted os started H enc)

theorem NullsTakes_holds : Rows.NullsTakesSaid := NullsTakes_over
#print axioms NullsTakes_holds

end Go.Proofs.Ytffglnccpbbclaa
