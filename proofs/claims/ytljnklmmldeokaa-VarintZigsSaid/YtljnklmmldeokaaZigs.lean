/- The statement VarintZigs: for every number, and every one that is not below 0, the law answers true. No condition. -/
import Derived.Test.YtljnklmmldeokaaShown
import Derived.Test.YtljnklmmldeokaaLaw
namespace Go.Proofs.Ytljnklmmldeokaa
open Go.RowKit Go.ChangeShapes Go.WideShapes Go.ChangeAt

set_option maxHeartbeats 400000 in
set_option maxRecDepth 100000 in
theorem VarintZigs_walk (w : World) (x : Int) (h0 : -9223372036854775808 ≤ x) (h1 : x ≤ 9223372036854775807) (u : Int) (u0 : 0 ≤ u) (u1 : u < 18446744073709551616) :
    Calls Try.prog 5 #[.int .i64 x, .int .u64 u] w fun e w' => e = .returned (.bool true) ∧ Below w.heap.size w w' := by
  obtain ⟨z0, z1⟩ := vzig_bd h0 h1
  obtain ⟨g0, g1⟩ := vzag_bd u0 u1
  have e1 := vzag_vzig x
  have e2 := vzig_vzag u0
  have E1 := Lib.hid e1
  have E2 := Lib.hid e2
  clear e1 e2
  generalize hZ : vzig x = Z at *
  generalize hG : vzag u = G at *
  have HZ := Lib.hid hZ
  have HG := Lib.hid hG
  clear hZ hG
  have cz1 := fun w => zig_any x w h0 h1
  have cz2 := fun w => rzig_any x w h0 h1
  have cz3 := fun w => zag_any Z w z0 z1
  have cg1 := fun w => zag_any u w u0 u1
  have cg2 := fun w => rzag_any u w u0 u1
  have cg3 := fun w => zig_any G w g0 g1
  rw [HZ.out] at cz1 cz2
  rw [HG.out] at cg1 cg2
  rw [E1.out] at cz3
  rw [E2.out] at cg3
  have C1 := Lib.hid cz1
  have C2 := Lib.hid cz2
  have C3 := Lib.hid cz3
  have C4 := Lib.hid cg1
  have C5 := Lib.hid cg2
  have C6 := Lib.hid cg3
  clear cz1 cz2 cz3 cg1 cg2 cg3
  go_enter Try.func5, Try.ntmps5
  go_wp2_with fail
  refine (shown_any _).mono ?_
  rintro e w1 ⟨rfl, hb1⟩
  go_wp2_with fail
  refine (C1.out _).mono ?_
  rintro e w2 ⟨rfl, rfl⟩
  go_wp2_with fail
  refine (C2.out _).mono ?_
  rintro e w2 ⟨rfl, rfl⟩
  go_wp2_with fail
  refine (C4.out _).mono ?_
  rintro e w2 ⟨rfl, rfl⟩
  go_wp2_with fail
  refine (C5.out _).mono ?_
  rintro e w2 ⟨rfl, rfl⟩
  go_wp2_with fail
  refine (C1.out _).mono ?_
  rintro e w2 ⟨rfl, rfl⟩
  go_wp2_with fail
  refine (C3.out _).mono ?_
  rintro e w2 ⟨rfl, rfl⟩
  go_wp2_with fail
  refine (C4.out _).mono ?_
  rintro e w2 ⟨rfl, rfl⟩
  go_wp2_with fail
  refine (C6.out _).mono ?_
  rintro e w2 ⟨rfl, rfl⟩
  go_wp2
  go_ret
  exact ⟨rfl, hb1⟩

set_option maxRecDepth 100000 in
theorem VarintZigs_lifted (os : Os) (started : os.Started) (H : Type) (enc : TypeId × Value → H) :
    ReturnsInHanded {} Try.checked os 5 .any (Rows.varintZigsSpec.pre6 enc Try.prog Try.f5 Rows.varintZigsRow.domain false) (Rows.varintZigsSpec.post enc Try.prog Try.f5 false true false false) := by
  refine returnsInHanded_of_change (C := Try.checked) own started (by kernel_rfl) Try.func5
    (ChangeSpec.witness6 (enc := enc) (C := Try.checked) false ⟨#[], #[.int .i64 0, .int .u64 0], []⟩ 8 (by kernel_rfl) (by kernel_rfl) (by kernel_rfl) (by kernel_rfl)) ?_
  intro W base args ds gs before hval0 hW hcnd _
  have hval : ∀ (j : Nat) t v, Try.f5.params[j]? = some t → args[j]? = some v → Value.okWide Try.prog W .any base t v := hval0
  have hW' := hW
  obtain ⟨p, q, hT0, hV, rfl, hfz, hnd⟩ := hW
  have hA : DataW.TrodAll enc Try.prog W 0 (fun _ => true) true Try.f5.params.toList args.toList ds p := hT0
  rw [Try.params5] at hA hval
  obtain ⟨v0, vs0, d0, ds0, p0, q0, hargs, rfl, rfl, h0, r0⟩ := trodAll_cons hA
  obtain ⟨v1, vs1, d1, ds1, p1, q1, rfl, rfl, rfl, h1, r1⟩ := trodAll_cons r0
  obtain ⟨rfl, rfl, rfl⟩ := trodAll_nil r1
  obtain rfl : args = #[v0, v1] := by cases args; simp_all
  obtain ⟨rfl, rfl⟩ := trodVars_none hV
  obtain ⟨a0, rfl, rfl, rfl, w0⟩ := open_int Try.underlying3 (hval 0 3 v0 rfl rfl) h0
  obtain ⟨a1, rfl, rfl, rfl, w1⟩ := open_int Try.underlying23 (hval 1 23 v1 rfl rfl) h1
  clear hT0 hval0
  refine (VarintZigs_walk W a0 (wf_i64 w0).1 (wf_i64 w0).2 a1 (wf_u64 w1).1 (wf_u64 w1).2).mono fun e W' ⟨he, hb⟩ => ?_
  subst he
  exact ⟨_, rfl, law_post laidOut Try.underlying4 (by kernel_rfl) (by kernel_rfl) rfl hW' rfl hb⟩

theorem VarintZigs_over : Rows.varintZigsRow.holds Try.pinned (OpenSpec.ofChange Rows.varintZigsSpec) :=
  OpenClaim.holds_of_wide 5 Try.f5 rfl rfl rfl rfl rfl rfl rfl ⟨rfl, rfl, rfl, rfl, rfl⟩ rfl rfl rfl rfl rfl (by kernel_rfl) Try.func5 (by kernel_rfl)
    (of_decide_eq_true (by kernel_rfl)) (by unfold Func.isWrapper; first | (rw [if_pos (by decide +kernel)]; kernel_rfl) | (rw [if_neg (by decide +kernel)]; exact ⟨rfl, rfl⟩))
    (fun os started H enc _ => VarintZigs_lifted os started H enc)

theorem VarintZigs_holds : Rows.VarintZigsSaid := VarintZigs_over
#print axioms VarintZigs_holds
end Go.Proofs.Ytljnklmmldeokaa
