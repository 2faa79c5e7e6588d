
/- The statement ByterleTakes: for any bytes and any number the law answers true. No condition. -/

import Derived.Test.YtcckennfbjhjiaaYShown

import Derived.Test.YtcckennfbjhjiaaLaw

namespace Go.Proofs.Ytcckennfbjhjiaa

open Go.RowKit Go.ChangeShapes Go.WideShapes Go.ChangeAt

set_option maxHeartbeats 4000000 in
set_option maxRecDepth 100000 in
theorem ByterleTakes_walk (w : World) (A0 : Option Addr) (n0 c0 : Nat) (l0 : List UInt8) (hA0 : A0 = none → n0 = 0) (hn0 : l0.length = n0) (hc0 : n0 ≤ c0) (hm0 : c0 ≤ maxLen) (hl0 : Lies w A0 (l0.map bv)) (many : Int) (_many0 : -9223372036854775808 ≤ many) (_many1 : many ≤ 9223372036854775807) :
    Calls Try.prog 4 #[.slice A0 n0 c0, .int .i64 many] w fun e w' => e = .returned (.bool true) ∧ Below w.heap.size w w' := by
  have hI0 : IsB l0 (.slice A0 n0 c0) w := ⟨A0, c0, by rw [hn0], fun h => by rw [hn0]; exact hA0 h, by rw [hn0]; exact hc0, hm0, hl0⟩
  obtain ⟨v0, hv0⟩ : ∃ v0, v0 = Value.slice A0 n0 c0 := ⟨_, rfl⟩
  rw [← hv0] at hI0 ⊢
  clear hv0 hA0 hn0 hc0 hm0 hl0
  have HI0 := Lib.hid hI0
  clear hI0
  go_enter Try.func4, Try.ntmps4
  go_wp2_with fail
  refine (shown_any _).mono ?_
  rintro e w1 ⟨rfl, hb1⟩
  have HB1 := Lib.hid hb1
  have HJ0 := Lib.hid (HI0.out.below hb1)
  clear hb1
  go_wp2_with fail
  refine (few_is 1000 (by omega) HJ0.out).mono ?_
  rintro e w' ⟨⟨u, rfl, hu⟩, rfl⟩
  obtain ⟨l, hl⟩ : ∃ l, l = l0.take 1000 := ⟨_, rfl⟩
  rw [← hl] at hu
  have HL : Hid (l.length ≤ 1000) := Lib.hid (by rw [hl, List.length_take]; omega)
  have HU1 := Lib.hid hu
  clear hu hl
  obtain ⟨Ac, cc, hvc, hAc, hncc, hcmc, hlc⟩ := HU1.out
  obtain ⟨nc, hnc⟩ : ∃ nc, nc = l.length := ⟨_, rfl⟩
  rw [← hnc] at hvc hAc hncc
  have hmlc : (l.map bv).length = nc := by rw [List.length_map, hnc]
  have hlenc : nc ≤ 1000 := by rw [hnc]; exact HL.out
  have HMLc := Lib.hid hmlc
  subst hvc
  clear hcmc hmlc hnc
  have hownc0 : (w1.alloc (.cells #[] 5)).ownsRow w1.heap.size 5 1 (.slice (some ⟨w1.heap.size, 0, none⟩) 0 0) 0 [] := World.ownsRow_made w1 #[] 0 (Nat.le_refl _) (by unfold maxLen; omega) (by simp)
  have hbAc : Below w1.heap.size w1 (w1.alloc (.cells #[] 5)) := (Below.refl _ _).alloc (Nat.le_refl _) _
  have hlAc := hlc.below hbAc
  have hzzc : w1.heap.size ≤ (w1.alloc (.cells #[] 5)).heap.size := by simp
  clear hlc
  go_wp2_with (at_builtin; refine wpList_join elemB rfl _ _ rfl w1.heap.size _ _ _ _ _ _ (l.map bv) w1 rfl rfl hAc HMLc.out hlAc (bv_one l) hownc0 hbAc hzzc (by omega) (by omega) ?_)
  intro v2 w2 hownc hbc _ _
  have hBc : IsB l v2 w2 := isB_own (by simpa using hownc)
  have HC := Lib.hid hBc
  have HU2 := Lib.hid (HU1.out.below hbc)
  have HB2 := Lib.hid (below_then HB1.out hbc)
  clear hownc hownc0 hbAc hlAc hzzc hBc hbc hAc hncc hlenc
  generalize Value.slice Ac nc cc = u at *
  go_wp2_with fail
  refine (btake_any l v2 many w2 HC.out (by have := HL.out; omega)).mono ?_
  rintro e w3 ⟨x3, r3, rfl, hx3, hr3, hb3⟩
  have HX3 := Lib.hid hx3
  have HR3 := Lib.hid hr3
  have HU3 := Lib.hid (HU2.out.below hb3)
  have HB3 := Lib.hid (below_then HB2.out hb3)
  clear hx3 hr3 hb3
  go_wp2_with fail
  refine (rtake5_any l u many w3 HU3.out (by have := HL.out; omega)).mono ?_
  rintro e w4 ⟨y4, s4, rfl, hy4, hs4, hb4⟩
  have hcx := textB (HX3.out.below hb4)
  have hcr := textB (HR3.out.below hb4)
  have hcy := textB hy4
  have hcs := textB hs4
  have HB4 := Lib.hid (below_then HB3.out hb4)
  have hz : ((ytakeE l many).2.2 == (ytakeE l many).2.2) = true := by simp
  clear hy4 hs4 hb4
  go_wp2
  go_ret
  exact ⟨rfl, HB4.out⟩

set_option maxRecDepth 100000 in
theorem ByterleTakes_lifted (os : Os) (started : os.Started) (H : Type) (enc : TypeId × Value → H) :
    ReturnsInHanded {} Try.checked os 4 .any (Rows.byterleTakesSpec.pre6 enc Try.prog Try.f4 Rows.byterleTakesRow.domain false) (Rows.byterleTakesSpec.post enc Try.prog Try.f4 false true false false) := by
  refine returnsInHanded_of_change (C := Try.checked) own started (by kernel_rfl) Try.func4
    (ChangeSpec.witness6 (enc := enc) (C := Try.checked) false ⟨#[], #[.slice none 0 0, .int .i64 0], []⟩ 8 (by kernel_rfl) (by kernel_rfl) (by kernel_rfl) (by kernel_rfl)) ?_
  intro W base args ds gs before hval0 hW hcnd _
  have hval : ∀ (j : Nat) t v, Try.f4.params[j]? = some t → args[j]? = some v → Value.okWide Try.prog W .any base t v := hval0
  have hW' := hW
  obtain ⟨p, q, hT0, hV, rfl, hfz, hnd⟩ := hW
  have hA : DataW.TrodAll enc Try.prog W 0 (fun _ => true) true Try.f4.params.toList args.toList ds p := hT0
  rw [Try.params4] at hA hval
  obtain ⟨v0, vs0, d0, ds0, p0, q0, hargs, rfl, rfl, h0, r0⟩ := trodAll_cons hA
  obtain ⟨v1, vs1, d1, ds1, p1, q1, rfl, rfl, rfl, h1, r1⟩ := trodAll_cons r0
  obtain ⟨rfl, rfl, rfl⟩ := trodAll_nil r1
  obtain rfl : args = #[v0, v1] := by cases args; simp_all
  obtain ⟨rfl, rfl⟩ := trodVars_none hV
  have hlt0 : ∀ x ∈ p0, x.block < W.heap.size := fun x hx => hW'.lt x (by simp [hx])
  obtain ⟨A0, n0, c0, l0, rfl, hA0, hn0, hc0, hm0, hl0⟩ := open_bytes Try.underlying22 Try.underlying5 (by kernel_rfl) (hval 0 22 v0 rfl rfl) h0 hlt0
  obtain ⟨a1, rfl, rfl, rfl, w1⟩ := open_int Try.underlying3 (hval 1 3 v1 rfl rfl) h1
  clear hT0 hval0
  refine (ByterleTakes_walk W A0 n0 c0 l0 hA0 hn0 hc0 hm0 hl0 a1 (wf_i64 w1).1 (wf_i64 w1).2).mono fun e W' ⟨he, hb⟩ => ?_
  subst he
  exact ⟨_, rfl, law_post laidOut Try.underlying4 (by kernel_rfl) (by kernel_rfl) rfl hW' rfl hb⟩

theorem ByterleTakes_over : Rows.byterleTakesRow.holds Try.pinned (OpenSpec.ofChange Rows.byterleTakesSpec) :=
  OpenClaim.holds_of_wide 4 Try.f4 rfl rfl rfl rfl rfl rfl rfl ⟨rfl, rfl, rfl, rfl, rfl⟩ rfl rfl rfl rfl rfl (by kernel_rfl) Try.func4 (by kernel_rfl)
    (of_decide_eq_true (by kernel_rfl)) (by unfold Func.isWrapper; first | (rw [if_pos (by decide +kernel)]; kernel_rfl) | (rw [if_neg (by decide +kernel)]; exact ⟨rfl, rfl⟩))
    (fun os started H enc _ => ByterleTakes_lifted os started H enc)

theorem ByterleTakes_holds : Rows.ByterleTakesSaid := ByterleTakes_over
#print axioms ByterleTakes_holds

end Go.Proofs.Ytcckennfbjhjiaa
