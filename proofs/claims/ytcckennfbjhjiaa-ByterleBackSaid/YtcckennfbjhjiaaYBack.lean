
/- The statement ByterleBack: for any two rows of bytes the law answers true. No condition. -/

import Derived.Test.YtcckennfbjhjiaaYShown

import Derived.Test.YtcckennfbjhjiaaLaw

namespace Go.Proofs.Ytcckennfbjhjiaa

open Go.RowKit Go.ChangeShapes Go.WideShapes Go.ChangeAt

theorem yputE_small {l : List UInt8} (h : l.length ≤ 4096) : yputE l = (yput l, 0) := by unfold yputE; rw [if_pos h]
theorem ytakeE_back {l b : List UInt8} (h : l.length ≤ 4096) : ytakeE (yput l ++ b) (l.length : Int) = (l, b, 0) := ytakeE_some h (ytake_back l b)
theorem ytakeE_more {l : List UInt8} (h : l.length < 4096) : ytakeE (yput l) ((l.length : Int) + 1) = ([], [], 2) := by
  have := ytakeE_none (M := l.length + 1) (by omega) (ytake_more l)
  rw [← this]
  congr 1
theorem ytakeE_full {l : List UInt8} (h : l.length = 4096) : ytakeE (yput l) ((l.length : Int) + 1) = ([], [], 1) := ytakeE_arg (.inr (by omega))
set_option maxHeartbeats 4000000 in
set_option maxRecDepth 100000 in
theorem ByterleBack_walk (w : World) (A0 : Option Addr) (n0 c0 : Nat) (l0 : List UInt8) (hA0 : A0 = none → n0 = 0) (hn0 : l0.length = n0) (hc0 : n0 ≤ c0) (hm0 : c0 ≤ maxLen) (hl0 : Lies w A0 (l0.map bv)) (A1 : Option Addr) (n1 c1 : Nat) (l1 : List UInt8) (hA1 : A1 = none → n1 = 0) (hn1 : l1.length = n1) (hc1 : n1 ≤ c1) (hm1 : c1 ≤ maxLen) (hl1 : Lies w A1 (l1.map bv)) :
    Calls Try.prog 5 #[.slice A0 n0 c0, .slice A1 n1 c1] w fun e w' => e = .returned (.bool true) ∧ Below w.heap.size w w' := by
  have hI0 : IsB l0 (.slice A0 n0 c0) w := ⟨A0, c0, by rw [hn0], fun h => by rw [hn0]; exact hA0 h, by rw [hn0]; exact hc0, hm0, hl0⟩
  obtain ⟨v0, hv0⟩ : ∃ v0, v0 = Value.slice A0 n0 c0 := ⟨_, rfl⟩
  rw [← hv0] at hI0 ⊢
  clear hv0 hA0 hn0 hc0 hm0 hl0
  have hI1 : IsB l1 (.slice A1 n1 c1) w := ⟨A1, c1, by rw [hn1], fun h => by rw [hn1]; exact hA1 h, by rw [hn1]; exact hc1, hm1, hl1⟩
  obtain ⟨v1, hv1⟩ : ∃ v1, v1 = Value.slice A1 n1 c1 := ⟨_, rfl⟩
  rw [← hv1] at hI1 ⊢
  clear hv1 hA1 hn1 hc1 hm1 hl1
  have HI0 := Lib.hid hI0
  have HI1 := Lib.hid hI1
  clear hI0 hI1
  go_enter Try.func5, Try.ntmps5
  go_wp2_with fail
  refine (shown_any _).mono ?_
  rintro e w1 ⟨rfl, hb1⟩
  have HB1 := Lib.hid hb1
  have HJ0 := Lib.hid (HI0.out.below hb1)
  have HJ1 := Lib.hid (HI1.out.below hb1)
  clear hb1
  go_wp2_with fail
  refine (few_is 4096 (by omega) HJ0.out).mono ?_
  rintro e w' ⟨⟨u, rfl, hu⟩, rfl⟩
  obtain ⟨l, hl⟩ : ∃ l, l = l0.take 4096 := ⟨_, rfl⟩
  rw [← hl] at hu
  have HL : Hid (l.length ≤ 4096) := Lib.hid (by rw [hl, List.length_take]; omega)
  have HU1 := Lib.hid hu
  clear hu hl
  go_wp2_with fail
  refine (few_is 100 (by omega) HJ1.out).mono ?_
  rintro e w' ⟨⟨ub, rfl, hu⟩, rfl⟩
  obtain ⟨lb, hl⟩ : ∃ lb, lb = l1.take 100 := ⟨_, rfl⟩
  rw [← hl] at hu
  have HLB : Hid (lb.length ≤ 100) := Lib.hid (by rw [hl, List.length_take]; omega)
  have HUB1 := Lib.hid hu
  clear hu hl
  have hput := bput_any l u w1 HU1.out (by have := HL.out; omega)
  rw [yputE_small HL.out] at hput
  have hlx : (yput l).length ≤ 8192 := by have := yput_len _ l (Nat.le_refl _); have := HL.out; omega
  have HLX := Lib.hid hlx
  have HPut := Lib.hid hput
  clear hput hlx
  go_wp2_with fail
  refine HPut.out.mono ?_
  rintro e w3 ⟨x3, rfl, hx3, hb3⟩
  have HX3 := Lib.hid hx3
  have HU3 := Lib.hid (HU1.out.below hb3)
  have HUB3 := Lib.hid (HUB1.out.below hb3)
  have HB3 := Lib.hid (below_then HB1.out hb3)
  clear hx3 hb3 HPut
  obtain ⟨Ax, cx, hvnx, hAnx, hncnx, hcmnx, hlnx⟩ := HX3.out
  obtain ⟨nx, hnnx⟩ : ∃ nx, nx = (yput l).length := ⟨_, rfl⟩
  rw [← hnnx] at hvnx hAnx hncnx
  have HNnx := Lib.hid hnnx
  have HMnx := Lib.hid (show ((yput l).map bv).length = nx by rw [List.length_map, hnnx])
  subst hvnx
  clear hnnx hcmnx
  obtain ⟨Au, cu, hvnu, hAnu, hncnu, hcmnu, hlnu⟩ := HU3.out
  obtain ⟨nu, hnnu⟩ : ∃ nu, nu = l.length := ⟨_, rfl⟩
  rw [← hnnu] at hvnu hAnu hncnu
  have HNnu := Lib.hid hnnu
  have HMnu := Lib.hid (show (l.map bv).length = nu by rw [List.length_map, hnnu])
  subst hvnu
  clear hnnu hcmnu
  obtain ⟨Ab, cb, hvnb, hAnb, hncnb, hcmnb, hlnb⟩ := HUB3.out
  obtain ⟨nb, hnnb⟩ : ∃ nb, nb = lb.length := ⟨_, rfl⟩
  rw [← hnnb] at hvnb hAnb hncnb
  have HNnb := Lib.hid hnnb
  have HMnb := Lib.hid (show (lb.map bv).length = nb by rw [List.length_map, hnnb])
  subst hvnb
  clear hnnb hcmnb
  have hx8 : nx ≤ 8192 := by rw [HNnx.out]; exact HLX.out
  have hu4 : nu ≤ 4096 := by rw [HNnu.out]; exact HL.out
  have hb1 : nb ≤ 100 := by rw [HNnb.out]; exact HLB.out
  have hown0 : (w3.alloc (.cells #[] 5)).ownsRow w3.heap.size 5 1 (.slice (some ⟨w3.heap.size, 0, none⟩) 0 0) 0 [] := World.ownsRow_made w3 #[] 0 (Nat.le_refl _) (by unfold maxLen; omega) (by simp)
  have hbA : Below w3.heap.size w3 (w3.alloc (.cells #[] 5)) := (Below.refl _ _).alloc (Nat.le_refl _) _
  have hlA := hlnx.below hbA
  have hzz : w3.heap.size ≤ (w3.alloc (.cells #[] 5)).heap.size := by simp
  have HLnb := Lib.hid hlnb
  clear hlnx hlnu hlnb
  go_wp2_with (at_builtin; refine wpList_join elemB rfl (.tmp 25) (.tmp 26) rfl w3.heap.size _ _ _ _ _ _ ((yput l).map bv) w3 rfl rfl hAnx HMnx.out hlA (bv_one (yput l)) hown0 hbA hzz (by omega) (by omega) ?_)
  intro v4 w4 hown4 hb4 _ _
  have hown4' : w4.ownsRow w3.heap.size 5 1 v4 nx ((yput l).map bv) := by simpa using hown4
  have hlB := HLnb.out.below hb4
  have hz4 := hb4.size
  clear hown4 hown0 hbA hlA hzz
  go_wp2_with (at_builtin; refine wpList_join elemB rfl (.tmp 27) (.tmp 28) rfl w3.heap.size _ _ _ _ _ _ (lb.map bv) w3 rfl rfl hAnb HMnb.out hlB (bv_one lb) hown4' hb4 hz4 (by omega) (by omega) ?_)
  intro v5 w5 hown5 hb5 _ _
  have hB5 : IsB (yput l ++ lb) v5 w5 := isB_own (n := nx + nb) (by rw [List.map_append]; exact hown5)
  have HB5 := Lib.hid (below_then HB3.out hb5)
  have HX5 := Lib.hid (HX3.out.below hb5)
  have HU5 := Lib.hid (HU3.out.below hb5)
  have HUB5 := Lib.hid (HUB3.out.below hb5)
  have htake := btake_any (yput l ++ lb) v5 (nu : Int) w5 hB5 (by rw [List.length_append]; have := HLX.out; have := HLB.out; omega)
  rw [HNnu.out, ytakeE_back HL.out, ← HNnu.out] at htake
  have HTake := Lib.hid htake
  clear htake hown5 hown4' hlB hz4 hB5 hb5 hb4
  go_wp2_with fail
  refine HTake.out.mono ?_
  rintro e w6 ⟨x6, r6, rfl, hx6, hr6, hb6⟩
  have HX6 := Lib.hid hx6
  have HR6 := Lib.hid hr6
  have HP6 := Lib.hid (HX5.out.below hb6)
  have HU6 := Lib.hid (HU5.out.below hb6)
  have HUB6 := Lib.hid (HUB5.out.below hb6)
  have HB6 := Lib.hid (below_then HB5.out hb6)
  clear hx6 hr6 hb6 HTake
  have hmore := btake_any (yput l) _ ((nu : Int) + 1) w6 HP6.out (by have := HLX.out; omega)
  by_cases hfull : nu = 4096
  · rw [HNnu.out, ytakeE_full (by rw [← HNnu.out]; exact hfull), ← HNnu.out] at hmore
    have hz : ((nu : Int) == 4096) = true := by simp; omega
    have HMore := Lib.hid hmore
    clear hmore hfull
    go_wp2_with fail
    refine HMore.out.mono ?_
    rintro e w7 ⟨x7, r7, rfl, _, _, hb7⟩
    have hcx := textB (HX6.out.below hb7)
    have hcr := textB (HR6.out.below hb7)
    have hcu := textB (HU6.out.below hb7)
    have hcb := textB (HUB6.out.below hb7)
    have HB7 := Lib.hid (below_then HB6.out hb7)
    clear hb7
    go_wp2
    go_ret
    exact ⟨rfl, HB7.out⟩
  · rw [HNnu.out, ytakeE_more (by rw [← HNnu.out]; omega), ← HNnu.out] at hmore
    have HMore := Lib.hid hmore
    clear hmore hfull
    go_wp2_with fail
    refine HMore.out.mono ?_
    rintro e w7 ⟨x7, r7, rfl, _, _, hb7⟩
    have hcx := textB (HX6.out.below hb7)
    have hcr := textB (HR6.out.below hb7)
    have hcu := textB (HU6.out.below hb7)
    have hcb := textB (HUB6.out.below hb7)
    have HB7 := Lib.hid (below_then HB6.out hb7)
    clear hb7
    go_wp2
    go_ret
    exact ⟨rfl, HB7.out⟩

set_option maxRecDepth 100000 in
theorem ByterleBack_lifted (os : Os) (started : os.Started) (H : Type) (enc : TypeId × Value → H) :
    ReturnsInHanded {} Try.checked os 5 .any (Rows.byterleBackSpec.pre6 enc Try.prog Try.f5 Rows.byterleBackRow.domain false) (Rows.byterleBackSpec.post enc Try.prog Try.f5 false true false false) := by
  refine returnsInHanded_of_change (C := Try.checked) own started (by kernel_rfl) Try.func5
    (ChangeSpec.witness6 (enc := enc) (C := Try.checked) false ⟨#[], #[.slice none 0 0, .slice none 0 0], []⟩ 8 (by kernel_rfl) (by kernel_rfl) (by kernel_rfl) (by kernel_rfl)) ?_
  intro W base args ds gs before hval0 hW hcnd _
  have hval : ∀ (j : Nat) t v, Try.f5.params[j]? = some t → args[j]? = some v → Value.okWide Try.prog W .any base t v := hval0
  have hW' := hW
  obtain ⟨p, q, hT0, hV, rfl, hfz, hnd⟩ := hW
  have hA : DataW.TrodAll enc Try.prog W 0 (fun _ => true) true Try.f5.params.toList args.toList ds p := hT0
  rw [Try.params5] at hA hval
  obtain ⟨v0, vs0, d0, ds0, p0, q0, hargs, rfl, rfl, h0, r0⟩ := trodAll_cons hA
  obtain ⟨v1, vs1, d1, ds1, p1, q1, rfl, rfl, rfl, h1, r1⟩ := trodAll_cons r0
  obtain ⟨rfl, rfl, rfl⟩ := trodAll_nil r1
  obtain rfl : args = #[v0, v1] := by cases args; simp_all
  obtain ⟨rfl, rfl⟩ := trodVars_none hV
  have hlt0 : ∀ x ∈ p0, x.block < W.heap.size := fun x hx => hW'.lt x (by simp [hx])
  obtain ⟨A0, n0, c0, l0, rfl, hA0, hn0, hc0, hm0, hl0⟩ := open_bytes Try.underlying22 Try.underlying5 (by kernel_rfl) (hval 0 22 v0 rfl rfl) h0 hlt0
  have hlt1 : ∀ x ∈ p1, x.block < W.heap.size := fun x hx => hW'.lt x (by simp [hx])
  obtain ⟨A1, n1, c1, l1, rfl, hA1, hn1, hc1, hm1, hl1⟩ := open_bytes Try.underlying22 Try.underlying5 (by kernel_rfl) (hval 1 22 v1 rfl rfl) h1 hlt1
  clear hT0 hval0
  refine (ByterleBack_walk W A0 n0 c0 l0 hA0 hn0 hc0 hm0 hl0 A1 n1 c1 l1 hA1 hn1 hc1 hm1 hl1).mono fun e W' ⟨he, hb⟩ => ?_
  subst he
  exact ⟨_, rfl, law_post laidOut Try.underlying4 (by kernel_rfl) (by kernel_rfl) rfl hW' rfl hb⟩

theorem ByterleBack_over : Rows.byterleBackRow.holds Try.pinned (OpenSpec.ofChange Rows.byterleBackSpec) :=
  OpenClaim.holds_of_wide 5 Try.f5 rfl rfl rfl rfl rfl rfl rfl ⟨rfl, rfl, rfl, rfl, rfl⟩ rfl rfl rfl rfl rfl (by kernel_rfl) Try.func5 (by kernel_rfl)
    (of_decide_eq_true (by kernel_rfl)) (by unfold Func.isWrapper; first | (rw [if_pos (by decide +kernel)]; kernel_rfl) | (rw [if_neg (by decide +kernel)]; exact ⟨rfl, rfl⟩))
    (fun os started H enc _ => ByterleBack_lifted os started H enc)

theorem ByterleBack_holds : Rows.ByterleBackSaid := ByterleBack_over
#print axioms ByterleBack_holds

end Go.Proofs.Ytcckennfbjhjiaa
