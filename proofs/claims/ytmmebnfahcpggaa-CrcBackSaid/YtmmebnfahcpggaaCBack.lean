/- The statement CrcBack: for any bytes the law answers true. No condition. -/
import Derived.Test.YtmmebnfahcpggaaCShown
import Derived.Test.YtmmebnfahcpggaaLaw
namespace Go.Proofs.Ytmmebnfahcpggaa
open Go.RowKit Go.ChangeShapes Go.WideShapes Go.ChangeAt

theorem copens_cseal (l : List UInt8) : copens (cseal l) = (l, 0) := by unfold copens; rw [copen_cseal]
theorem copens_nil : copens [] = ([], 2) := copens_short (by simp)
set_option maxHeartbeats 4000000 in
set_option maxRecDepth 100000 in
theorem CrcBack_walk (w : World) (A0 : Option Addr) (n0 c0 : Nat) (l0 : List UInt8) (hA0 : A0 = none → n0 = 0) (hn0 : l0.length = n0) (hc0 : n0 ≤ c0) (hm0 : c0 ≤ maxLen) (hl0 : Lies w A0 (l0.map bv)) :
    Calls Try.prog 5 #[.slice A0 n0 c0] w fun e w' => e = .returned (.bool true) ∧ Below w.heap.size w w' := by
  have hI0 : IsB l0 (.slice A0 n0 c0) w := ⟨A0, c0, by rw [hn0], fun h => by rw [hn0]; exact hA0 h, by rw [hn0]; exact hc0, hm0, hl0⟩
  obtain ⟨v0, hv0⟩ : ∃ v0, v0 = Value.slice A0 n0 c0 := ⟨_, rfl⟩
  rw [← hv0] at hI0 ⊢
  clear hv0 hA0 hn0 hc0 hm0 hl0
  have HI0 := Lib.hid hI0
  clear hI0
  go_enter Try.func5, Try.ntmps5
  go_wp2_with fail
  refine (shown_any _).mono ?_
  rintro e w1 ⟨rfl, hb1⟩
  have HB1 := Lib.hid hb1
  have HJ0 := Lib.hid (HI0.out.below hb1)
  clear hb1
  go_wp2_with fail
  refine (few_is HJ0.out).mono ?_
  rintro e w' ⟨⟨u, rfl, hu⟩, rfl⟩
  obtain ⟨l, hl⟩ : ∃ l, l = l0.take 400 := ⟨_, rfl⟩
  rw [← hl] at hu
  have HL : Hid (l.length ≤ 1000) := Lib.hid (by rw [hl, List.length_take]; omega)
  have HU1 := Lib.hid hu
  clear hu hl
  go_wp2_with fail
  refine (new_any _).mono ?_
  rintro e w2 ⟨rfl, hb2⟩
  go_wp2_with (refine wpList_allocArr tabT rfl rfl ?_)
  intro w3 hr3 hb3
  have hb13 := below_then hb2 hb3
  obtain ⟨g, hg⟩ : ∃ g, g = w2.heap.size := ⟨_, rfl⟩
  have hgw : w1.heap.size ≤ g := by rw [hg]; exact hb2.size
  rw [← hg] at hr3 ⊢
  clear hb2 hb3 hg
  go_wp2_with (refine wpList_storeArr tabT rfl _ _ rfl g _ _ ctab rfl rfl hr3 ctab_len (zeroRow_len _ _) ctab_one w1 w1.heap.size hb13 hgw ?_)
  intro w4 hr4 hb4 _
  have HT : Hid (Tabl g w4) := Lib.hid ⟨_, hr4⟩
  have HBn := Lib.hid (below_then HB1.out hb4)
  have HU4 := Lib.hid (HU1.out.below hb4)
  clear hr3 hr4 hb13 hb4 hgw
  go_wp2_with fail
  refine (seal_any g l u w4 HT.out HU4.out (by have := HL.out; omega)).mono ?_
  rintro e w5 hs
  obtain ⟨s5, rfl, hs5, hb5⟩ := hs.isB
  have HS5 := Lib.hid hs5
  have HT5 := Lib.hid (HT.out.below hb5)
  have HU5 := Lib.hid (HU4.out.below hb5)
  have HB5 := Lib.hid (below_then HBn.out hb5)
  clear hs hs5 hb5
  go_wp2_with fail
  have hop := open_any g (cseal l) s5 w5 HT5.out HS5.out (by rw [cseal_len]; have := HL.out; omega)
  rw [copens_cseal] at hop
  refine hop.mono ?_
  rintro e w6 ⟨x6, rfl, hx6, hb6⟩
  have HX6 := Lib.hid hx6
  have HT6 := Lib.hid (HT5.out.below hb6)
  have HU6 := Lib.hid (HU5.out.below hb6)
  have HB6 := Lib.hid (below_then HB5.out hb6)
  clear hx6 hb6 hop
  go_wp2_with fail
  have hop := open_any g [] _ w6 HT6.out (isB_nil w6) (by simp)
  rw [copens_nil] at hop
  refine hop.mono ?_
  rintro e w7 ⟨y7, rfl, hy7, hb7⟩
  have hcx := textB (HX6.out.below hb7)
  have hcu := textB (HU6.out.below hb7)
  have HB7 := Lib.hid (below_then HB6.out hb7)
  clear hop hy7 hb7
  go_wp2
  go_ret
  exact ⟨rfl, HB7.out⟩

set_option maxRecDepth 100000 in
theorem CrcBack_lifted (os : Os) (started : os.Started) (H : Type) (enc : TypeId × Value → H) :
    ReturnsInHanded {} Try.checked os 5 .any (Rows.crcBackSpec.pre6 enc Try.prog Try.f5 Rows.crcBackRow.domain false) (Rows.crcBackSpec.post enc Try.prog Try.f5 false true false false) := by
  refine returnsInHanded_of_change (C := Try.checked) own started (by kernel_rfl) Try.func5
    (ChangeSpec.witness6 (enc := enc) (C := Try.checked) false ⟨#[], #[.slice none 0 0], []⟩ 8 (by kernel_rfl) (by kernel_rfl) (by kernel_rfl) (by kernel_rfl)) ?_
  intro W base args ds gs before hval0 hW hcnd _
  have hval : ∀ (j : Nat) t v, Try.f5.params[j]? = some t → args[j]? = some v → Value.okWide Try.prog W .any base t v := hval0
  have hW' := hW
  obtain ⟨p, q, hT0, hV, rfl, hfz, hnd⟩ := hW
  have hA : DataW.TrodAll enc Try.prog W 0 (fun _ => true) true Try.f5.params.toList args.toList ds p := hT0
  rw [Try.params5] at hA hval
  obtain ⟨v0, vs0, d0, ds0, p0, q0, hargs, rfl, rfl, h0, r0⟩ := trodAll_cons hA
  obtain ⟨rfl, rfl, rfl⟩ := trodAll_nil r0
  obtain rfl : args = #[v0] := by cases args; simp_all
  obtain ⟨rfl, rfl⟩ := trodVars_none hV
  have hlt0 : ∀ x ∈ p0, x.block < W.heap.size := fun x hx => hW'.lt x (by simp [hx])
  obtain ⟨A0, n0, c0, l0, rfl, hA0, hn0, hc0, hm0, hl0⟩ := open_bytes Try.underlying22 Try.underlying5 (by kernel_rfl) (hval 0 22 v0 rfl rfl) h0 hlt0
  clear hT0 hval0
  refine (CrcBack_walk W A0 n0 c0 l0 hA0 hn0 hc0 hm0 hl0).mono fun e W' ⟨he, hb⟩ => ?_
  subst he
  exact ⟨_, rfl, law_post laidOut Try.underlying4 (by kernel_rfl) (by kernel_rfl) rfl hW' rfl hb⟩

theorem CrcBack_over : Rows.crcBackRow.holds Try.pinned (OpenSpec.ofChange Rows.crcBackSpec) :=
  OpenClaim.holds_of_wide 5 Try.f5 rfl rfl rfl rfl rfl rfl rfl ⟨rfl, rfl, rfl, rfl, rfl⟩ rfl rfl rfl rfl rfl (by kernel_rfl) Try.func5 (by kernel_rfl)
    (of_decide_eq_true (by kernel_rfl)) (by unfold Func.isWrapper; first | (rw [if_pos (by decide +kernel)]; kernel_rfl) | (rw [if_neg (by decide +kernel)]; exact ⟨rfl, rfl⟩))
    (fun os started H enc _ => CrcBack_lifted os started H enc)

theorem CrcBack_holds : Rows.CrcBackSaid := CrcBack_over
#print axioms CrcBack_holds
end Go.Proofs.Ytmmebnfahcpggaa
