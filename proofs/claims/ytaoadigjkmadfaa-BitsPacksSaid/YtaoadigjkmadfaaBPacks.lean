/- The statement BitsPacks: for any numbers, any width and any two numbers the law answers true. No condition. -/
import Derived.Test.YtaoadigjkmadfaaBShown
import Derived.Test.YtaoadigjkmadfaaBRPack
import Derived.Test.YtaoadigjkmadfaaLaw
import Derived.Test.YtaoadigjkmadfaaBRUnp
namespace Go.Proofs.Ytaoadigjkmadfaa
open Go.RowKit Go.ChangeShapes Go.WideShapes Go.ChangeAt

theorem size_q (m w : Int) (W : World) : Calls Try.prog 12 #[.int .i64 m, .int .i64 w] W fun e w' => e = .returned (.int .i64 (bsz m w)) ∧ w' = W := (size_any m w W).mono fun _ _ ⟨h1, h2⟩ => ⟨h1, h2.symm⟩
theorem rsize_q (m w : Int) (W : World) : Calls Try.prog 13 #[.int .i64 m, .int .i64 w] W fun e w' => e = .returned (.int .i64 (bsz m w)) ∧ w' = W := (rsize_any m w W).mono fun _ _ ⟨h1, h2⟩ => ⟨h1, h2.symm⟩

set_option maxHeartbeats 4000000 in
set_option maxRecDepth 100000 in
theorem BitsPacks_walk (w : World) (A : Option Addr) (n0 c : Nat) (l0 : List Nat) (hA0 : A = none → n0 = 0) (hn0 : l0.length = n0) (hc0 : n0 ≤ c) (hm0 : c ≤ maxLen) (hl0 : Lies w A (l0.map uv)) (h064 : ∀ x ∈ l0, x < 2 ^ 64)
    (K : Int) (_K0 : -9223372036854775808 ≤ K) (_K1 : K ≤ 9223372036854775807) (a b : Int) (_ha : -9223372036854775808 ≤ a ∧ a ≤ 9223372036854775807) (_hb : -9223372036854775808 ≤ b ∧ b ≤ 9223372036854775807) :
    Calls Try.prog 3 #[.slice A n0 c, .int .i64 K, .agg #[.int .i64 a, .int .i64 b]] w fun e w' => e = .returned (.bool true) ∧ Below w.heap.size w w' := by
  have hci : (c : Int) ≤ 9223372036854775807 := by unfold maxLen at hm0; omega
  have HM := Lib.hid hm0
  clear hm0
  obtain ⟨n, hmin⟩ : ∃ n, n = min n0 300 := ⟨_, rfl⟩
  obtain ⟨l, hl⟩ : ∃ l, l = l0.take n := ⟨_, rfl⟩
  have hn : l.length = n := by rw [hl, List.length_take]; omega
  have hA : A = none → n = 0 := fun h => by have := hA0 h; omega
  have hnc : n ≤ c := by omega
  have hnb : n ≤ 300 := by omega
  have hlies : Lies w A (l.map uv) := by rw [hl, List.map_take]; exact hl0.take n
  have h64 : ∀ x ∈ l, x < 2 ^ 64 := fun x hx => h064 x (by rw [hl] at hx; exact List.mem_of_mem_take hx)
  have hfew := fun w => few_any A n0 c w hc0 hci
  rw [← hmin] at hfew
  clear hl hA0 hn0 hl0 h064
  have hml : (l.map uv).length = n := by simpa using hn
  have hIs : IsU l (.slice A n c) w := ⟨A, c, by rw [hn], fun h => by rw [hn]; exact hA h, by rw [hn]; exact hnc, HM.out, hlies⟩
  have H64 := Lib.hid h64
  have HI := Lib.hid hIs
  have HML := Lib.hid hml
  have HF := Lib.hid hfew
  obtain ⟨p, hp⟩ : ∃ p, p = packsAny l K := ⟨_, rfl⟩
  have hL : l.length ≤ 4096 := by omega
  have HL := Lib.hid hL
  have HP := Lib.hid hp
  have hq1 : (l == l) = true := by simp
  clear hn hml hIs hL hp hmin hfew h64
  have hr0 : Row (w.alloc (.cells #[.int .i64 a, .int .i64 b] 23)) w.heap.size 23 [.int .i64 a, .int .i64 b] := heap_alloc_new w _
  have hb0 : Below w.heap.size w (w.alloc (.cells #[.int .i64 a, .int .i64 b] 23)) := (Below.refl _ _).alloc (Nat.le_refl _) _
  go_enter Try.func3, Try.ntmps3
  go_wp2_with fail
  refine (shown_any _).mono ?_
  rintro e w1 ⟨rfl, hb1⟩
  have hr1 := hr0.below hb1 hr0.lt
  have hb1' := below_then hb0 hb1
  clear hr0 hb0 hb1
  go_wp2_with fail
  refine (HF.out _).mono ?_
  rintro e w2 ⟨rfl, rfl⟩
  have hz1 := hb1'.size
  have hbA : Below w.heap.size w (w1.alloc (.cells #[] 36)) := hb1'.alloc hz1 _
  have hlA := hlies.below hbA
  have hbB : Below w1.heap.size w1 (w1.alloc (.cells #[] 36)) := (Below.refl _ _).alloc (Nat.le_refl _) _
  have hown0 : (w1.alloc (.cells #[] 36)).ownsRow w1.heap.size 36 1 (.slice (some ⟨w1.heap.size, 0, none⟩) 0 0) 0 [] := World.ownsRow_made w1 #[] 0 (Nat.le_refl _) (by unfold maxLen; omega) (by simp)
  have hzz : w1.heap.size ≤ (w1.alloc (.cells #[] 36)).heap.size := by simp
  go_wp2_with (at_builtin; refine wpList_join elemU rfl _ _ rfl w1.heap.size _ _ _ _ _ _ (l.map uv) w1 rfl rfl hA HML.out hlA (uv_one l) hown0 hbB hzz (by omega) (by omega) ?_)
  intro v3 w3 hown3 hb3 _ _
  have hB3 : IsU l v3 w3 := isU_own (by simpa using hown3)
  have hr3 := hr1.below hb3 hr1.lt
  have hbw3 := below_then hb1' hb3
  have hU := pack_is K hB3 HL.out H64.out
  rw [← HP.out] at hU
  have HU := Lib.hid hU
  have HI3 := Lib.hid (HI.out.below hbw3)
  have HB3 := Lib.hid hbw3
  have HO3 := Lib.hid hB3
  have HR3 := Lib.hid hr3
  clear hown3 hown0 hlA hbA hzz hB3 hU hb3 hbB hr1 hb1' hr3 hbw3
  go_wp2_with fail
  refine HU.out.mono ?_
  rintro e w4 ⟨v4, rfl, hv4, hb4⟩
  have hR := rpack_is K (HI3.out.below hb4) HL.out H64.out
  rw [← HP.out] at hR
  have HR := Lib.hid hR
  have HV4 := Lib.hid hv4
  have HI4 := Lib.hid (HI3.out.below hb4)
  have HO4 := Lib.hid (HO3.out.below hb4)
  have HB4 := Lib.hid (below_then HB3.out hb4)
  have HR4 := Lib.hid (HR3.out.below hb4 HR3.out.lt)
  clear hv4 hb4 hR
  go_wp2_with fail
  refine HR.out.mono ?_
  rintro e w5 ⟨v5, rfl, hv5, hb5⟩
  have hS := same_is (HO4.out.below hb5) (HI4.out.below hb5) (by have := HL.out; omega) (by have := HL.out; omega)
  rw [hq1] at hS
  have HS := Lib.hid hS
  have HV5 := Lib.hid hv5
  have HV45 := Lib.hid (HV4.out.below hb5)
  have HB5 := Lib.hid (below_then HB4.out hb5)
  have HR5 := Lib.hid (HR4.out.below hb5 HR4.out.lt)
  clear hv5 hb5 hS
  go_wp2_with fail
  refine HS.out.mono ?_
  rintro e w6 ⟨rfl, hb6⟩
  have hcv4 : ∀ q, (convert 26 9 v4).run Try.prog (w6.drewN q) = .ok (.string ⟨p.1.toArray⟩) (w6.drewN q) := fun q => textB ((HV45.out.below hb6).below (below_drewN (Below.refl _ _) q))
  have hcv5 : ∀ q, (convert 26 9 v5).run Try.prog (w6.drewN q) = .ok (.string ⟨p.1.toArray⟩) (w6.drewN q) := fun q => textB ((HV5.out.below hb6).below (below_drewN (Below.refl _ _) q))
  have hr6 := HR5.out.below hb6 HR5.out.lt
  have hc0 := hr6.cell 0
  have hc1 := hr6.cell 1
  have HB6 := Lib.hid (below_then HB5.out hb6)
  have hz : (bsz a b == bsz a b) = true := by simp
  clear hb6 hr6
  go_wp2
  go_quiet ((first | (go_at_call 12; exact Calls.quiet_of_same (size_q _ _ _)) | (go_at_call 13; exact Calls.quiet_of_same (rsize_q _ _ _))))
  go_wp2
  go_ret
  exact ⟨rfl, below_drewN HB6.out _⟩
set_option maxRecDepth 100000 in
theorem BitsPacks_lifted (os : Os) (started : os.Started) (H : Type) (enc : TypeId × Value → H) :
    ReturnsInHanded {} Try.checked os 3 .any (Rows.bitsPacksSpec.pre6 enc Try.prog Try.f3 Rows.bitsPacksRow.domain false) (Rows.bitsPacksSpec.post enc Try.prog Try.f3 false true false false) := by
  refine returnsInHanded_of_change (C := Try.checked) own started (by kernel_rfl) Try.func3
    (ChangeSpec.witness6 (enc := enc) (C := Try.checked) false ⟨#[], #[.slice none 0 0, .int .i64 0, .agg #[.int .i64 0, .int .i64 0]], []⟩ 8 (by kernel_rfl) (by kernel_rfl) (by kernel_rfl) (by kernel_rfl)) ?_
  intro W base args ds gs before hval0 hW hcnd _
  have hval : ∀ (j : Nat) t v, Try.f3.params[j]? = some t → args[j]? = some v → Value.okWide Try.prog W .any base t v := hval0
  have hW' := hW
  obtain ⟨p, q, hT0, hV, rfl, hfz, hnd⟩ := hW
  have hA : DataW.TrodAll enc Try.prog W 0 (fun _ => true) true Try.f3.params.toList args.toList ds p := hT0
  rw [Try.params3] at hA hval
  obtain ⟨v0, vs0, d0, ds0, p0, q0, hargs, rfl, rfl, h0, r0⟩ := trodAll_cons hA
  obtain ⟨v1, vs1, d1, ds1, p1, q1, rfl, rfl, rfl, h1, r1⟩ := trodAll_cons r0
  obtain ⟨v2, vs2, d2, ds2, p2, q2, rfl, rfl, rfl, h2, r2⟩ := trodAll_cons r1
  obtain ⟨rfl, rfl, rfl⟩ := trodAll_nil r2
  obtain rfl : args = #[v0, v1, v2] := by cases args; simp_all
  obtain ⟨rfl, rfl⟩ := trodVars_none hV
  have hlt0 : ∀ x ∈ p0, x.block < W.heap.size := fun x hx => hW'.lt x (by simp [hx])
  obtain ⟨A0, n0, c0, l0, rfl, hA0, hn0, hc0, hm0, hl0, hw0⟩ := open_u64s Try.underlying22 Try.underlying36 (by kernel_rfl) (hval 0 22 v0 rfl rfl) h0 hlt0
  obtain ⟨a1, rfl, rfl, rfl, w1⟩ := open_int Try.underlying3 (hval 1 3 v1 rfl rfl) h1
  obtain ⟨a2, b2, rfl, wa2, wb2⟩ := open_arr2 Try.underlying23 Try.underlying3 (by kernel_rfl) (by kernel_rfl) (hval 2 23 v2 rfl rfl) h2
  clear hT0 hval0
  refine (BitsPacks_walk W A0 n0 c0 l0 hA0 hn0 hc0 hm0 hl0 hw0 a1 (wf_i64 w1).1 (wf_i64 w1).2 a2 b2 (wf_i64 wa2) (wf_i64 wb2)).mono fun e W' ⟨he, hb⟩ => ?_
  subst he
  exact ⟨_, rfl, law_post laidOut Try.underlying4 (by kernel_rfl) (by kernel_rfl) rfl hW' rfl hb⟩

theorem BitsPacks_over : Rows.bitsPacksRow.holds Try.pinned (OpenSpec.ofChange Rows.bitsPacksSpec) :=
  OpenClaim.holds_of_wide 3 Try.f3 rfl rfl rfl rfl rfl rfl rfl ⟨rfl, rfl, rfl, rfl, rfl⟩ rfl rfl rfl rfl rfl (by kernel_rfl) Try.func3 (by kernel_rfl)
    (of_decide_eq_true (by kernel_rfl)) (by unfold Func.isWrapper; first | (rw [if_pos (by decide +kernel)]; kernel_rfl) | (rw [if_neg (by decide +kernel)]; exact ⟨rfl, rfl⟩))
    (fun os started H enc _ => BitsPacks_lifted os started H enc)

theorem BitsPacks_holds : Rows.BitsPacksSaid := BitsPacks_over
#print axioms BitsPacks_holds
end Go.Proofs.Ytaoadigjkmadfaa
