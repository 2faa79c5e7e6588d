/- The statement BitsUnpacks: for any bytes, any two numbers the law answers true. No condition. -/
import Derived.Test.YtaoadigjkmadfaaBShown
import Derived.Test.YtaoadigjkmadfaaBRUnp
import Derived.Test.YtaoadigjkmadfaaLaw
namespace Go.Proofs.Ytaoadigjkmadfaa
open Go.RowKit Go.ChangeShapes Go.WideShapes Go.ChangeAt

set_option maxHeartbeats 4000000 in
set_option maxRecDepth 100000 in
theorem BitsUnpacks_walk (w : World) (A : Option Addr) (n0 c : Nat) (l0 : List UInt8) (hA0 : A = none → n0 = 0) (hn0 : l0.length = n0) (hc0 : n0 ≤ c) (hm0 : c ≤ maxLen) (hl0 : Lies w A (l0.map bv))
    (M : Int) (_M0 : -9223372036854775808 ≤ M) (_M1 : M ≤ 9223372036854775807) (K : Int) (_K0 : -9223372036854775808 ≤ K) (_K1 : K ≤ 9223372036854775807) :
    Calls Try.prog 4 #[.slice A n0 c, .int .i64 M, .int .i64 K] w fun e w' => e = .returned (.bool true) ∧ Below w.heap.size w w' := by
  have hci : (c : Int) ≤ 9223372036854775807 := by unfold maxLen at hm0; omega
  have HM := Lib.hid hm0
  clear hm0
  obtain ⟨n, hmin⟩ : ∃ n, n = min n0 600 := ⟨_, rfl⟩
  obtain ⟨l, hl⟩ : ∃ l, l = l0.take n := ⟨_, rfl⟩
  have hn : l.length = n := by rw [hl, List.length_take]; omega
  have hA : A = none → n = 0 := fun h => by have := hA0 h; omega
  have hnc : n ≤ c := by omega
  have hnb : n ≤ 600 := by omega
  have hlies : Lies w A (l.map bv) := by rw [hl, List.map_take]; exact hl0.take n
  clear hl hA0 hn0 hl0
  have hml : (l.map bv).length = n := by simpa using hn
  have hIs : IsB l (.slice A n c) w := ⟨A, c, by rw [hn], fun h => by rw [hn]; exact hA h, by rw [hn]; exact hnc, HM.out, hlies⟩
  have HI := Lib.hid hIs
  have HN := Lib.hid hn
  have HML := Lib.hid hml
  obtain ⟨p, hp⟩ : ∃ p, p = unpacksAny l M K := ⟨_, rfl⟩
  have hL : l.length ≤ 1000000 := by omega
  have HL := Lib.hid hL
  have hp1 : p.1.length ≤ 1000000 := by
    rw [hp]
    unfold unpacksAny unpacks
    repeat' split
    all_goals simp [bnums_len]
    omega
  have hp2 : (p.2.2 == p.2.2) = true := by simp
  have HP := Lib.hid hp
  have HP1 := Lib.hid hp1
  have hq1 : (p.1 == p.1) = true := by simp
  clear hn hml hIs hL hp hp1
  rcases (by omega : n0 ≤ 600 ∧ n = n0 ∨ 600 < n0 ∧ n = 600) with ⟨h6, rfl⟩ | ⟨h6, rfl⟩
  all_goals
    clear hmin
    go_enter Try.func4, Try.ntmps4
    go_wp2_with fail
    refine (shown_any _).mono ?_
    rintro e w1 ⟨rfl, hb1⟩
    have hz1 := hb1.size
    have hbA : Below w.heap.size w (w1.alloc (.cells #[] 5)) := hb1.alloc hz1 _
    have hlA := hlies.below hbA
    have hown0 : (w1.alloc (.cells #[] 5)).ownsRow w.heap.size 5 1 (.slice (some ⟨w1.heap.size, 0, none⟩) 0 0) 0 [] := World.ownsRow_made w1 #[] 0 hz1 (by unfold maxLen; omega) (by simp)
    have hzz : w.heap.size ≤ (w1.alloc (.cells #[] 5)).heap.size := by simp; omega
    clear hb1
    go_wp2_with (at_builtin; refine wpList_join elemB rfl _ _ rfl w.heap.size _ _ _ _ _ _ (l.map bv) w rfl rfl hA HML.out hlA (bv_one l) hown0 hbA hzz (by omega) (by omega) ?_)
    intro v3 w3 hown3 hb3 _ _
    have hB3 : IsB l v3 w3 := isB_own (by simpa using hown3)
    have hU := unpack_is M K hB3 HL.out
    rw [← HP.out] at hU
    have HU := Lib.hid hU
    have HB3 := Lib.hid hb3
    clear hown3 hown0 hlA hbA hzz hB3 hU hb3
    go_wp2_with fail
    refine HU.out.mono ?_
    rintro e w4 ⟨u4, v4, rfl, hu4, hv4, hb4⟩
    have hb34 := below_then HB3.out hb4
    have hR := runpack_is M K (HI.out.below hb34) HL.out
    rw [← HP.out] at hR
    have HR := Lib.hid hR
    have HU4 := Lib.hid hu4
    have HV4 := Lib.hid hv4
    have HB4 := Lib.hid hb34
    clear hu4 hv4 hb4 hR hb34
    go_wp2_with fail
    refine HR.out.mono ?_
    rintro e w5 ⟨u5, v5, rfl, hu5, hv5, hb5⟩
    have hS := same_is (HU4.out.below hb5) hu5 HP1.out HP1.out
    rw [hq1] at hS
    have HS := Lib.hid hS
    have HV5 := Lib.hid hv5
    have HV45 := Lib.hid (HV4.out.below hb5)
    have HB5 := Lib.hid (below_then HB4.out hb5)
    clear hu5 hv5 hb5 hS
    go_wp2_with fail
    refine HS.out.mono ?_
    rintro e w6 ⟨rfl, hb6⟩
    have hcv4 := textB (HV45.out.below hb6)
    have hcv5 := textB (HV5.out.below hb6)
    have HB6 := Lib.hid (below_then HB5.out hb6)
    clear hb6
    go_wp2
    go_ret
    exact ⟨rfl, HB6.out⟩

set_option maxRecDepth 100000 in
theorem BitsUnpacks_lifted (os : Os) (started : os.Started) (H : Type) (enc : TypeId × Value → H) :
    ReturnsInHanded {} Try.checked os 4 .any (Rows.bitsUnpacksSpec.pre6 enc Try.prog Try.f4 Rows.bitsUnpacksRow.domain false) (Rows.bitsUnpacksSpec.post enc Try.prog Try.f4 false true false false) := by
  refine returnsInHanded_of_change (C := Try.checked) own started (by kernel_rfl) Try.func4
    (ChangeSpec.witness6 (enc := enc) (C := Try.checked) false ⟨#[], #[.slice none 0 0, .int .i64 0, .int .i64 0], []⟩ 8 (by kernel_rfl) (by kernel_rfl) (by kernel_rfl) (by kernel_rfl)) ?_
  intro W base args ds gs before hval0 hW hcnd _
  have hval : ∀ (j : Nat) t v, Try.f4.params[j]? = some t → args[j]? = some v → Value.okWide Try.prog W .any base t v := hval0
  have hW' := hW
  obtain ⟨p, q, hT0, hV, rfl, hfz, hnd⟩ := hW
  have hA : DataW.TrodAll enc Try.prog W 0 (fun _ => true) true Try.f4.params.toList args.toList ds p := hT0
  rw [Try.params4] at hA hval
  obtain ⟨v0, vs0, d0, ds0, p0, q0, hargs, rfl, rfl, h0, r0⟩ := trodAll_cons hA
  obtain ⟨v1, vs1, d1, ds1, p1, q1, rfl, rfl, rfl, h1, r1⟩ := trodAll_cons r0
  obtain ⟨v2, vs2, d2, ds2, p2, q2, rfl, rfl, rfl, h2, r2⟩ := trodAll_cons r1
  obtain ⟨rfl, rfl, rfl⟩ := trodAll_nil r2
  obtain rfl : args = #[v0, v1, v2] := by cases args; simp_all
  obtain ⟨rfl, rfl⟩ := trodVars_none hV
  have hlt0 : ∀ x ∈ p0, x.block < W.heap.size := fun x hx => hW'.lt x (by simp [hx])
  obtain ⟨A0, n0, c0, l0, rfl, hA0, hn0, hc0, hm0, hl0⟩ := open_bytes Try.underlying26 Try.underlying5 (by kernel_rfl) (hval 0 26 v0 rfl rfl) h0 hlt0
  obtain ⟨a1, rfl, rfl, rfl, w1⟩ := open_int Try.underlying3 (hval 1 3 v1 rfl rfl) h1
  obtain ⟨a2, rfl, rfl, rfl, w2⟩ := open_int Try.underlying3 (hval 2 3 v2 rfl rfl) h2
  clear hT0 hval0
  refine (BitsUnpacks_walk W A0 n0 c0 l0 hA0 hn0 hc0 hm0 hl0 a1 (wf_i64 w1).1 (wf_i64 w1).2 a2 (wf_i64 w2).1 (wf_i64 w2).2).mono fun e W' ⟨he, hb⟩ => ?_
  subst he
  exact ⟨_, rfl, law_post laidOut Try.underlying4 (by kernel_rfl) (by kernel_rfl) rfl hW' rfl hb⟩

theorem BitsUnpacks_over : Rows.bitsUnpacksRow.holds Try.pinned (OpenSpec.ofChange Rows.bitsUnpacksSpec) :=
  OpenClaim.holds_of_wide 4 Try.f4 rfl rfl rfl rfl rfl rfl rfl ⟨rfl, rfl, rfl, rfl, rfl⟩ rfl rfl rfl rfl rfl (by kernel_rfl) Try.func4 (by kernel_rfl)
    (of_decide_eq_true (by kernel_rfl)) (by unfold Func.isWrapper; first | (rw [if_pos (by decide +kernel)]; kernel_rfl) | (rw [if_neg (by decide +kernel)]; exact ⟨rfl, rfl⟩))
    (fun os started H enc _ => BitsUnpacks_lifted os started H enc)

theorem BitsUnpacks_holds : Rows.BitsUnpacksSaid := BitsUnpacks_over
#print axioms BitsUnpacks_holds
end Go.Proofs.Ytaoadigjkmadfaa
