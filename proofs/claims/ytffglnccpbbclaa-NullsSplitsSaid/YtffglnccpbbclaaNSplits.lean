
/- The statement NullsSplits: for any values and any truths the law answers true. No condition. -/

import Derived.Test.YtffglnccpbbclaaNShown

import Derived.Test.YtffglnccpbbclaaKOpenS

import Derived.Test.YtffglnccpbbclaaLaw

namespace Go.Proofs.Ytffglnccpbbclaa

open Go.RowKit Go.ChangeShapes Go.WideShapes Go.ChangeAt

set_option maxHeartbeats 4000000 in
set_option maxRecDepth 100000 in
theorem NullsSplits_walk (w : World) (v0 : Value) (l0 : List CV) (hI0 : IsR kcells l0 v0 w) (_hi0 : ∀ x ∈ l0, x.inInt) (_hs0 : ∀ x ∈ l0, x.s.size ≤ maxLen) (v1 : Value) (l1 : List Bool) (hI1 : IsV Value.bool l1 v1 w) :
    Calls Try.prog 3 #[v0, v1] w fun e w' => e = .returned (.bool true) ∧ Below w.heap.size w w' := by
  obtain ⟨A1, n10, c1, rfl⟩ := IsV.shape (f := Value.bool) hI1
  obtain ⟨hn1, -, hc1, hm1, -⟩ := IsV.parts (f := Value.bool) hI1
  obtain ⟨n1, hmin1⟩ : ∃ n, n = min n10 4200 := ⟨_, rfl⟩
  have HU := Lib.hid (IsV.take (f := Value.bool) hI1 (show n1 ≤ n10 by omega))
  have HUL := Lib.hid (show (l1.take n1).length = n1 by rw [List.length_take]; omega)
  have hci1 : (c1 : Int) ≤ 9223372036854775807 := by unfold maxLen at hm1; omega
  have hnb1 : n1 ≤ 4200 := by omega
  have hnc1 : n1 ≤ c1 := by omega
  obtain ⟨l1c, hl1c⟩ : ∃ l, l = l1.take n1 := ⟨_, rfl⟩
  rw [← hl1c] at HU HUL
  clear hI1 hn1 hm1 hl1c
  have HI := Lib.hid hI0
  clear hI0 _hi0 _hs0
  rcases (by omega : n10 ≤ 4200 ∧ n1 = n10 ∨ 4200 < n10 ∧ n1 = 4200) with ⟨h6, rfl⟩ | ⟨h6, rfl⟩
  all_goals
    clear hmin1
    go_enter Try.func3, Try.ntmps3
    go_wp2_with fail
    refine (shown_any _).mono ?_
    rintro e w1 ⟨rfl, hb1⟩
    have HI := Lib.hid (IsR.below HI.out hb1)
    have HU := Lib.hid (IsV.below HU.out hb1)
    have HB := Lib.hid hb1
    clear hb1
    go_wp2_with fail
    refine (few_is HI.out).mono ?_
    rintro e w' ⟨⟨u, rfl, hu⟩, rfl⟩
    obtain ⟨l, hl⟩ : ∃ l, l = l0.take 4200 := ⟨_, rfl⟩
    rw [← hl] at hu
    have HJL : Hid (l.length ≤ 4200) := Lib.hid (by rw [hl, List.length_take]; omega)
    have HJ := Lib.hid hu
    clear hu hl
    go_wp2_with fail
    refine (nsplit_any l u _ HJ.out (by have := HJL.out; omega)).mono ?_
    rintro e w2 ⟨a, b, rfl, ha, hb, hb2⟩
    have HU := Lib.hid (IsV.below HU.out hb2)
    have HJ := Lib.hid (IsR.below HJ.out hb2)
    have HB := Lib.hid (below_then HB.out hb2)
    have HA := Lib.hid ha
    have HBB := Lib.hid hb
    clear ha hb hb2
    go_wp2_with fail
    refine (rsplit13_any l u _ HJ.out (by have := HJL.out; omega)).mono ?_
    rintro e w3 ⟨c, d, rfl, hc, hd, hb3⟩
    have HU := Lib.hid (IsV.below HU.out hb3)
    have HJ := Lib.hid (IsR.below HJ.out hb3)
    have HA := Lib.hid (IsV.below HA.out hb3)
    have HBB := Lib.hid (IsR.below HBB.out hb3)
    have HB := Lib.hid (below_then HB.out hb3)
    have HC := Lib.hid hc
    have HD := Lib.hid hd
    clear hc hd hb3
    go_wp2_with fail
    refine (njoin_any l1c l _ u _ HU.out HJ.out (by have := HUL.out; omega) (by have := HJL.out; omega)).mono ?_
    rintro e w4 ⟨x, rfl, hx, hb4⟩
    have HU := Lib.hid (IsV.below HU.out hb4)
    have HJ := Lib.hid (IsR.below HJ.out hb4)
    have HA := Lib.hid (IsV.below HA.out hb4)
    have HBB := Lib.hid (IsR.below HBB.out hb4)
    have HC := Lib.hid (IsV.below HC.out hb4)
    have HD := Lib.hid (IsR.below HD.out hb4)
    have HB := Lib.hid (below_then HB.out hb4)
    have HX := Lib.hid hx
    clear hx hb4
    go_wp2_with fail
    refine (rjoin13_any l1c l _ u _ HU.out HJ.out (by have := HUL.out; omega) (by have := HJL.out; omega)).mono ?_
    rintro e w5 ⟨y, rfl, hy, hb5⟩
    have HU := Lib.hid (IsV.below HU.out hb5)
    have HJ := Lib.hid (IsR.below HJ.out hb5)
    have HA := Lib.hid (IsV.below HA.out hb5)
    have HBB := Lib.hid (IsR.below HBB.out hb5)
    have HC := Lib.hid (IsV.below HC.out hb5)
    have HD := Lib.hid (IsR.below HD.out hb5)
    have HX := Lib.hid (IsR.below HX.out hb5)
    have HB := Lib.hid (below_then HB.out hb5)
    have HY := Lib.hid hy
    clear hy hb5
    have HP6 : Hid ((npresent l).length ≤ 1000000) := Lib.hid (by rw [npresent_len]; have := HJL.out; omega)
    have HS6 : Hid ((nsome l).length ≤ 1000000) := Lib.hid (by have := nsome_len l; have := HJL.out; omega)
    have HE6 : Hid ((njoinE l1c l).1.length ≤ 1000000) := Lib.hid (by have := njoinE_len l1c l; have := HUL.out; omega)
    go_wp2_with fail
    refine (sameL_any (npresent l) (npresent l) a c _ HA.out HC.out HP6.out HP6.out).mono ?_
    rintro e w6 ⟨rfl, hb6⟩
    have HU := Lib.hid (IsV.below HU.out hb6)
    have HJ := Lib.hid (IsR.below HJ.out hb6)
    have HA := Lib.hid (IsV.below HA.out hb6)
    have HBB := Lib.hid (IsR.below HBB.out hb6)
    have HC := Lib.hid (IsV.below HC.out hb6)
    have HD := Lib.hid (IsR.below HD.out hb6)
    have HX := Lib.hid (IsR.below HX.out hb6)
    have HY := Lib.hid (IsR.below HY.out hb6)
    have HB := Lib.hid (below_then HB.out hb6)
    clear hb6
    go_wp2_with fail
    refine (samerow12_any (nsome l) b d _ HBB.out HD.out HS6.out).mono ?_
    rintro e w7 ⟨rfl, hb7⟩
    have HU := Lib.hid (IsV.below HU.out hb7)
    have HJ := Lib.hid (IsR.below HJ.out hb7)
    have HA := Lib.hid (IsV.below HA.out hb7)
    have HBB := Lib.hid (IsR.below HBB.out hb7)
    have HC := Lib.hid (IsV.below HC.out hb7)
    have HD := Lib.hid (IsR.below HD.out hb7)
    have HX := Lib.hid (IsR.below HX.out hb7)
    have HY := Lib.hid (IsR.below HY.out hb7)
    have HB := Lib.hid (below_then HB.out hb7)
    clear hb7
    go_wp2_with fail
    refine (samerow12_any (njoinE l1c l).1 x y _ HX.out HY.out HE6.out).mono ?_
    rintro e w8 ⟨rfl, hb8⟩
    have HU := Lib.hid (IsV.below HU.out hb8)
    have HJ := Lib.hid (IsR.below HJ.out hb8)
    have HA := Lib.hid (IsV.below HA.out hb8)
    have HBB := Lib.hid (IsR.below HBB.out hb8)
    have HC := Lib.hid (IsV.below HC.out hb8)
    have HD := Lib.hid (IsR.below HD.out hb8)
    have HX := Lib.hid (IsR.below HX.out hb8)
    have HY := Lib.hid (IsR.below HY.out hb8)
    have HB := Lib.hid (below_then HB.out hb8)
    clear hb8
    have hz : ((njoinE l1c l).2 == (njoinE l1c l).2) = true := by simp
    have hz2 : (npresent l == npresent l) = true := by simp
    go_wp2
    go_ret
    exact ⟨rfl, HB.out⟩

set_option maxRecDepth 100000 in
theorem NullsSplits_lifted (os : Os) (started : os.Started) (H : Type) (enc : TypeId × Value → H) :
    ReturnsInHanded {} Try.checked os 3 .any (Rows.nullsSplitsSpec.pre6 enc Try.prog Try.f3 Rows.nullsSplitsRow.domain false) (Rows.nullsSplitsSpec.post enc Try.prog Try.f3 false true false false) := by
  refine returnsInHanded_of_change (C := Try.checked) own started (by kernel_rfl) Try.func3
    (ChangeSpec.witness6 (enc := enc) (C := Try.checked) false ⟨#[], #[.slice none 0 0, .slice none 0 0], []⟩ 8 (by kernel_rfl) (by kernel_rfl) (by kernel_rfl) (by kernel_rfl)) ?_
  intro W base args ds gs before hval0 hW hcnd _
  have hval : ∀ (j : Nat) t v, Try.f3.params[j]? = some t → args[j]? = some v → Value.okWide Try.prog W .any base t v := hval0
  have hW' := hW
  obtain ⟨p, q, hT0, hV, rfl, hfz, hnd⟩ := hW
  have hA : DataW.TrodAll enc Try.prog W 0 (fun _ => true) true Try.f3.params.toList args.toList ds p := hT0
  rw [Try.params3] at hA hval
  obtain ⟨v0, vs0, d0, ds0, p0, q0, hargs, rfl, rfl, h0, r0⟩ := trodAll_cons hA
  obtain ⟨v1, vs1, d1, ds1, p1, q1, rfl, rfl, rfl, h1, r1⟩ := trodAll_cons r0
  obtain ⟨rfl, rfl, rfl⟩ := trodAll_nil r1
  obtain rfl : args = #[v0, v1] := by cases args; simp_all
  obtain ⟨rfl, rfl⟩ := trodVars_none hV
  have hlt0 : ∀ x ∈ p0, x.block < W.heap.size := fun x hx => hW'.lt x (by simp [hx])
  obtain ⟨l0, hl0, hp0, hq0⟩ := open_vals (hval 0 22 v0 rfl rfl) h0 hlt0
  have hlt1 : ∀ x ∈ p1, x.block < W.heap.size := fun x hx => hW'.lt x (by simp [hx])
  obtain ⟨l1, hl1⟩ := open_truths Try.underlying23 Try.underlying4 (by kernel_rfl) (hval 1 23 v1 rfl rfl) h1 hlt1
  clear hT0 hval0
  refine (NullsSplits_walk W v0 l0 hl0 hp0 hq0 v1 l1 hl1).mono fun e W' ⟨he, hb⟩ => ?_
  subst he
  exact ⟨_, rfl, law_post laidOut Try.underlying4 (by kernel_rfl) (by kernel_rfl) rfl hW' rfl hb⟩

theorem NullsSplits_over : Rows.nullsSplitsRow.holds Try.pinned (OpenSpec.ofChange Rows.nullsSplitsSpec) :=
  OpenClaim.holds_of_wide 3 Try.f3 rfl rfl rfl rfl rfl rfl rfl ⟨rfl, rfl, rfl, rfl, rfl⟩ rfl rfl rfl rfl rfl (by kernel_rfl) Try.func3 (by kernel_rfl)
    (of_decide_eq_true (by kernel_rfl)) (by unfold Func.isWrapper; first | (rw [if_pos (by decide +kernel)]; kernel_rfl) | (rw [if_neg (by decide +kernel)]; exact ⟨rfl, rfl⟩))
    (fun os started H enc _ => NullsSplits_lifted os started H enc)

theorem NullsSplits_holds : Rows.NullsSplitsSaid := NullsSplits_over
#print axioms NullsSplits_holds

end Go.Proofs.Ytffglnccpbbclaa
