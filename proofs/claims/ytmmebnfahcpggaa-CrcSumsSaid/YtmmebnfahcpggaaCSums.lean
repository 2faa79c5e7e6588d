/- The statement CrcSums: for any bytes and any number the law answers true. No condition. -/
import Derived.Test.YtmmebnfahcpggaaCShown
import Derived.Test.YtmmebnfahcpggaaLaw
namespace Go.Proofs.Ytmmebnfahcpggaa
open Go.RowKit Go.ChangeShapes Go.WideShapes Go.ChangeAt

theorem i64_and255 (n : Int) : bits .and .i64 n 255 = n % 256 := by
  have h255 : (BitVec.ofInt 64 255).toNat = 2 ^ 8 - 1 := by decide
  have key : (BitVec.ofInt 64 n &&& BitVec.ofInt 64 255).toNat = (n % ((2 ^ 64 : Nat) : Int)).toNat % 2 ^ 8 := by
    rw [BitVec.toNat_and, BitVec.toNat_ofInt, h255, Nat.and_two_pow_sub_one_eq_mod]
  show IntKind.i64.wrap ((BitVec.ofInt 64 n &&& BitVec.ofInt 64 255).toNat : Nat) = n % 256
  rw [key, IntKind.wrap_i64]
  omega
set_option maxHeartbeats 4000000 in
set_option maxRecDepth 100000 in
theorem CrcSums_walk (w : World) (A0 : Option Addr) (n0 c0 : Nat) (l0 : List UInt8) (hA0 : A0 = none → n0 = 0) (hn0 : l0.length = n0) (hc0 : n0 ≤ c0) (hm0 : c0 ≤ maxLen) (hl0 : Lies w A0 (l0.map bv)) (n : Int) (_h0 : -9223372036854775808 ≤ n) (_h1 : n ≤ 9223372036854775807) :
    Calls Try.prog 3 #[.slice A0 n0 c0, .int .i64 n] w fun e w' => e = .returned (.bool true) ∧ Below w.heap.size w w' := by
  have hI : IsB l0 (.slice A0 n0 c0) w := ⟨A0, c0, by rw [hn0], fun h => by rw [hn0]; exact hA0 h, by rw [hn0]; exact hc0, hm0, hl0⟩
  obtain ⟨v0, hv0⟩ : ∃ v0, v0 = Value.slice A0 n0 c0 := ⟨_, rfl⟩
  rw [← hv0] at hI ⊢
  clear hv0 hA0 hn0 hc0 hm0 hl0
  have HI := Lib.hid hI
  clear hI
  obtain ⟨x, hx8, hand⟩ : ∃ x : Nat, x < 256 ∧ bits .and .i64 n 255 = (x : Int) := ⟨(n % 256).toNat, by omega, by rw [i64_and255]; omega⟩
  go_enter Try.func3, Try.ntmps3
  go_wp2_with fail
  refine (shown_any _).mono ?_
  rintro e w1 ⟨rfl, hb1⟩
  have HB1 := Lib.hid hb1
  have HI1 := Lib.hid (HI.out.below hb1)
  clear hb1
  go_wp2_with fail
  refine (few_is HI1.out).mono ?_
  rintro e w' ⟨⟨u, rfl, hu⟩, rfl⟩
  obtain ⟨l, hl⟩ : ∃ l, l = l0.take 400 := ⟨_, rfl⟩
  rw [← hl] at hu
  have HLen : Hid (l.length ≤ 1000000) := Lib.hid (by rw [hl, List.length_take]; omega)
  have HU := Lib.hid hu
  clear hu hl
  go_wp2_with fail
  refine (new_any _).mono ?_
  rintro e w2 ⟨rfl, hb2⟩
  go_wp2_with (refine wpList_allocArr tabT rfl rfl ?_)
  intro w3 hr3 hb3
  have hb13 := below_then hb2 hb3
  obtain ⟨g, hg⟩ : ∃ g, g = w2.heap.size := ⟨_, rfl⟩
  have hgw : w1.heap.size ≤ g := by rw [hg]; exact hb2.size
  rw [← hg] at hr3 ⊢
  clear hb2 hb3 hg
  go_wp2_with (refine wpList_storeArr tabT rfl _ _ rfl g _ _ ctab rfl rfl hr3 ctab_len (zeroRow_len _ _) ctab_one w1 w1.heap.size hb13 hgw ?_)
  intro w4 hr4 hb4 _
  have HT : Hid (Tabl g w4) := Lib.hid ⟨_, hr4⟩
  have HBn := Lib.hid (below_then HB1.out hb4)
  have hct : w4.cell? ⟨g, x, none⟩ = some (.int .u32 (centry x : Int)) := by rw [hr4.cell, ctab_at? hx8]
  have HU4 := Lib.hid (HU.out.below hb4)
  have HS := Lib.hid fun q => (sum_any g l u (w4.drewN q) (HT.out.below (below_drewN (Below.refl _ _) q)) (HU4.out.below (below_drewN (Below.refl _ _) q)) HLen.out).mono fun _ _ ⟨h1, h2⟩ => (⟨h1, h2.symm⟩ : _ ∧ _ = w4.drewN q)
  have HR := Lib.hid fun q => (rsum_any l u (w4.drewN q) (HU4.out.below (below_drewN (Below.refl _ _) q)) HLen.out).mono fun _ _ ⟨h1, h2⟩ => (⟨h1, h2.symm⟩ : _ ∧ _ = w4.drewN q)
  have HE := Lib.hid fun q => (rentry_any x (w4.drewN q) hx8).mono fun _ _ ⟨h1, h2⟩ => (⟨h1, h2.symm⟩ : _ ∧ _ = w4.drewN q)
  have hz1 : (((csum l : Nat) : Int) == ((csum l : Nat) : Int)) = true := by simp
  have hz2 : (((centry x : Nat) : Int) == ((centry x : Nat) : Int)) = true := by simp
  clear hr3 hr4 hb13 hb4 hgw
  go_wp2
  go_quiet ((first | (go_at_call 10; exact Calls.quiet_of_same (HS.out _)) | (go_at_call 11; exact Calls.quiet_of_same (HR.out _)) | (go_at_call 12; exact Calls.quiet_of_same (HE.out _))))
  go_wp2
  go_ret
  exact ⟨rfl, below_drewN HBn.out _⟩

set_option maxRecDepth 100000 in
theorem CrcSums_lifted (os : Os) (started : os.Started) (H : Type) (enc : TypeId × Value → H) :
    ReturnsInHanded {} Try.checked os 3 .any (Rows.crcSumsSpec.pre6 enc Try.prog Try.f3 Rows.crcSumsRow.domain false) (Rows.crcSumsSpec.post enc Try.prog Try.f3 false true false false) := by
  refine returnsInHanded_of_change (C := Try.checked) own started (by kernel_rfl) Try.func3
    (ChangeSpec.witness6 (enc := enc) (C := Try.checked) false ⟨#[], #[.slice none 0 0, .int .i64 0], []⟩ 8 (by kernel_rfl) (by kernel_rfl) (by kernel_rfl) (by kernel_rfl)) ?_
  intro W base args ds gs before hval0 hW hcnd _
  have hval : ∀ (j : Nat) t v, Try.f3.params[j]? = some t → args[j]? = some v → Value.okWide Try.prog W .any base t v := hval0
  have hW' := hW
  obtain ⟨p, q, hT0, hV, rfl, hfz, hnd⟩ := hW
  have hA : DataW.TrodAll enc Try.prog W 0 (fun _ => true) true Try.f3.params.toList args.toList ds p := hT0
  rw [Try.params3] at hA hval
  obtain ⟨v0, vs0, d0, ds0, p0, q0, hargs, rfl, rfl, h0, r0⟩ := trodAll_cons hA
  obtain ⟨v1, vs1, d1, ds1, p1, q1, rfl, rfl, rfl, h1, r1⟩ := trodAll_cons r0
  obtain ⟨rfl, rfl, rfl⟩ := trodAll_nil r1
  obtain rfl : args = #[v0, v1] := by cases args; simp_all
  obtain ⟨rfl, rfl⟩ := trodVars_none hV
  have hlt0 : ∀ x ∈ p0, x.block < W.heap.size := fun x hx => hW'.lt x (by simp [hx])
  obtain ⟨A0, n0, c0, l0, rfl, hA0, hn0, hc0, hm0, hl0⟩ := open_bytes Try.underlying22 Try.underlying5 (by kernel_rfl) (hval 0 22 v0 rfl rfl) h0 hlt0
  obtain ⟨a1, rfl, rfl, rfl, w1⟩ := open_int Try.underlying3 (hval 1 3 v1 rfl rfl) h1
  clear hT0 hval0
  refine (CrcSums_walk W A0 n0 c0 l0 hA0 hn0 hc0 hm0 hl0 a1 (wf_i64 w1).1 (wf_i64 w1).2).mono fun e W' ⟨he, hb⟩ => ?_
  subst he
  exact ⟨_, rfl, law_post laidOut Try.underlying4 (by kernel_rfl) (by kernel_rfl) rfl hW' rfl hb⟩

theorem CrcSums_over : Rows.crcSumsRow.holds Try.pinned (OpenSpec.ofChange Rows.crcSumsSpec) :=
  OpenClaim.holds_of_wide 3 Try.f3 rfl rfl rfl rfl rfl rfl rfl ⟨rfl, rfl, rfl, rfl, rfl⟩ rfl rfl rfl rfl rfl (by kernel_rfl) Try.func3 (by kernel_rfl)
    (of_decide_eq_true (by kernel_rfl)) (by unfold Func.isWrapper; first | (rw [if_pos (by decide +kernel)]; kernel_rfl) | (rw [if_neg (by decide +kernel)]; exact ⟨rfl, rfl⟩))
    (fun os started H enc _ => CrcSums_lifted os started H enc)

theorem CrcSums_holds : Rows.CrcSumsSaid := CrcSums_over
#print axioms CrcSums_holds
end Go.Proofs.Ytmmebnfahcpggaa
