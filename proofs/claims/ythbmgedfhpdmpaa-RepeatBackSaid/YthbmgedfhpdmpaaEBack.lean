
/- The statement RepeatBack: for any number, any times, any bytes behind the law answers true. No condition. -/

import Derived.Test.YthbmgedfhpdmpaaEShown

import Derived.Test.YthbmgedfhpdmpaaLaw

namespace Go.Proofs.Ythbmgedfhpdmpaa

open Go.RowKit Go.ChangeShapes Go.WideShapes Go.ChangeAt

theorem i64_and7 (n : Int) : bits .and .i64 n 7 = n % 8 := by
  have h7 : (BitVec.ofInt 64 7).toNat = 2 ^ 3 - 1 := by decide
  have key : (BitVec.ofInt 64 n &&& BitVec.ofInt 64 7).toNat = (n % ((2 ^ 64 : Nat) : Int)).toNat % 2 ^ 3 := by
    rw [BitVec.toNat_and, BitVec.toNat_ofInt, h7, Nat.and_two_pow_sub_one_eq_mod]
  show IntKind.i64.wrap ((BitVec.ofInt 64 n &&& BitVec.ofInt 64 7).toNat : Nat) = n % 8
  rw [key, IntKind.wrap_i64]
  omega
def BackRel (n : Nat) (w : World) (i : Value) (wr : World) : Prop := ∃ k : Nat, k ≤ n ∧ i = .int .i64 (k : Int) ∧ Below w.heap.size w wr
set_option maxHeartbeats 4000000 in
set_option maxRecDepth 100000 in
theorem RepeatBack_walk (w : World) (x : Int) (x0 : -9223372036854775808 ≤ x) (x1 : x ≤ 9223372036854775807) (t : Int) (_t0 : -9223372036854775808 ≤ t) (_t1 : t ≤ 9223372036854775807) (v2 : Value) (l2 : List UInt8) (hI2 : IsB l2 v2 w) :
    Calls Try.prog 5 #[.int .i64 x, .int .i64 t, v2] w fun e w' => e = .returned (.bool true) ∧ Below w.heap.size w w' := by
  obtain ⟨A2, n20, c2, rfl⟩ := IsV.shape (f := bv) hI2
  obtain ⟨hn2, -, hc2, hm2, -⟩ := IsV.parts (f := bv) hI2
  obtain ⟨n2, hmin2⟩ : ∃ n, n = min n20 50 := ⟨_, rfl⟩
  have HI2 := Lib.hid (IsV.take (f := bv) hI2 (show n2 ≤ n20 by omega))
  have HI2L := Lib.hid (show (l2.take n2).length = n2 by rw [List.length_take]; omega)
  have hci2 : (c2 : Int) ≤ 9223372036854775807 := by unfold maxLen at hm2; omega
  have hnb2 : n2 ≤ 50 := by omega
  have hnc2 : n2 ≤ c2 := by omega
  obtain ⟨l2c, hl2c⟩ : ∃ l, l = l2.take n2 := ⟨_, rfl⟩
  rw [← hl2c] at HI2 HI2L
  have HI2M := Lib.hid (show (l2c.map (bv)).length = n2 by rw [List.length_map]; exact HI2L.out)
  clear hI2 hn2 hm2 hl2c
  have hand := i64_and7 t
  obtain ⟨r, hr⟩ : ∃ r : Nat, r = (t % 8).toNat := ⟨_, rfl⟩
  have hr8 : r < 8 := by omega
  have hri : t % 8 = (r : Int) := by omega
  rw [hri] at hand
  obtain ⟨T, hT⟩ : ∃ T : Nat, T = r + 3 := ⟨_, rfl⟩
  have hTi : (3 : Int) + (r : Int) = (T : Int) := by omega
  have hT3 : 3 ≤ T := by omega
  have hT10 : T ≤ 10 := by omega
  have hs1 : eplain x true = some (vzig x).toNat := by unfold eplain; rw [if_pos rfl]
  obtain ⟨u, hu⟩ : ∃ u, u = (vzig x).toNat := ⟨_, rfl⟩
  rw [← hu] at hs1
  have hu64 := eplain_lt x0 x1 hs1
  have hm1 := emade_eplain x0 x1 hs1
  have HPut := Lib.hid fun W => eput_any x T true W x0 x1
  rw [eput_ok hT3 hT10 hs1] at HPut
  have HBk := Lib.hid (etake_back hu64 hT3 hT10 hm1 l2c)
  have HCut := Lib.hid fun (k : Nat) (hk : k < (elay u T).length) => etake_cut (s := true) hu64 hT3 hT10 hk
  have HE9 := Lib.hid (show 2 ≤ (elay u T).length ∧ (elay u T).length ≤ 9 by rw [elay_len]; have := ebytes_pos u; have := ebytes_8 hu64; omega)
  have HPut2 := Lib.hid fun W => eput_any x T false W x0 x1
  clear hr hri hu hs1 hu64 hm1 hT
  by_cases hx : x < 0
  · rw [eput_not (show eplain x false = none by unfold eplain; rw [if_neg (by simp), if_neg (by omega)])] at HPut2
    rcases (by omega : n20 ≤ 50 ∧ n2 = n20 ∨ 50 < n20 ∧ n2 = 50) with ⟨h6, rfl⟩ | ⟨h6, rfl⟩
    all_goals
      clear hmin2
      go_enter Try.func5, Try.ntmps5
      go_wp2_with fail
      refine (shown_any _).mono ?_
      rintro e w1 ⟨rfl, hb1⟩
      have HB1 := Lib.hid hb1
      have HJ2 := Lib.hid (IsB.below HI2.out hb1)
      clear hb1
      go_wp2_with fail
      refine (HPut.out _).mono ?_
      rintro e w3 ⟨x3, rfl, hx3, hb3⟩
      have HK2 := Lib.hid (IsB.below HJ2.out hb3)
      have HX3 := Lib.hid hx3
      have HB3 := Lib.hid (below_then HB1.out hb3)
      obtain ⟨Ax, nx, cx, rfl⟩ := IsV.shape (f := bv) hx3
      obtain ⟨hnx, hAx, hncx, hcmx, hlx⟩ := IsV.parts (f := bv) hx3
      obtain ⟨-, hA2, -, -, hl2⟩ := IsV.parts (f := bv) HK2.out
      have hcxi : (cx : Int) ≤ 9223372036854775807 := by unfold maxLen at hcmx; omega
      have hnx2 : (elay u T).length = nx := hnx
      have HNx := Lib.hid hnx2
      have HMx := Lib.hid (show ((elay u T).map bv).length = nx by rw [List.length_map]; exact hnx2)
      have hx9 : nx ≤ 9 := by have := HE9.out; omega
      have hx2 : 2 ≤ nx := by have := HE9.out; omega
      have hown0 : (w3.alloc (.cells #[] 5)).ownsRow w3.heap.size 5 1 (.slice (some ⟨w3.heap.size, 0, none⟩) 0 0) 0 [] := World.ownsRow_made w3 #[] 0 (Nat.le_refl _) (by unfold maxLen; omega) (by simp)
      have hbA : Below w3.heap.size w3 (w3.alloc (.cells #[] 5)) := (Below.refl _ _).alloc (Nat.le_refl _) _
      have hlA := hlx.below hbA
      have hzz : w3.heap.size ≤ (w3.alloc (.cells #[] 5)).heap.size := by simp
      have HL2 := Lib.hid hl2
      clear hb3 hx3 hnx hnx2 hlx hl2 HPut hcmx
      go_wp2_with (at_builtin; refine wpList_join elemB rfl (.tmp 42) (.tmp 43) rfl w3.heap.size _ _ _ _ _ _ ((elay u T).map bv) w3 rfl rfl hAx HMx.out hlA (bv_one _) hown0 hbA hzz (by omega) (by omega) ?_)
      intro v4 w4 hown4 hb4 _ _
      have hown4' : w4.ownsRow w3.heap.size 5 1 v4 nx ((elay u T).map bv) := by simpa using hown4
      have hlB := HL2.out.below hb4
      have hz4 := hb4.size
      clear hown4 hown0 hbA hlA hzz
      go_wp2_with (at_builtin; refine wpList_join elemB rfl (.tmp 44) (.tmp 45) rfl w3.heap.size _ _ _ _ _ _ (l2c.map bv) w3 rfl rfl hA2 HI2M.out hlB (bv_one l2c) hown4' hb4 hz4 (by omega) (by omega) ?_)
      intro v5 w5 hown5 hb5 _ _
      have hB5 : IsB (elay u T ++ l2c) v5 w5 := isB_own (by rw [List.map_append]; exact hown5)
      have HB5 := Lib.hid (below_then HB3.out hb5)
      have HX5 := Lib.hid (IsB.below HX3.out hb5)
      have HK5 := Lib.hid (IsB.below HK2.out hb5)
      have htake := etake_any (elay u T ++ l2c) v5 true w5 hB5 (by rw [List.length_append]; have := HE9.out; have := HI2L.out; omega)
      rw [HBk.out] at htake
      have HTake := Lib.hid htake
      clear htake hown5 hown4' hlB hz4 hB5 hb5 hb4
      go_wp2_with fail
      refine HTake.out.mono ?_
      rintro e w6 ⟨r6, rfl, hr6, hb6⟩
      have HX6 := Lib.hid (IsB.below HX5.out hb6)
      have HB6 := Lib.hid (below_then HB5.out hb6)
      have hcr := textB hr6
      have hcb := textB (IsB.below HK5.out hb6)
      have hzx : (x != x) = false := by simp
      have hzt : ((T : Int) != (T : Int)) = false := by simp
      have hst : BackRel nx w6 (.int .i64 0) w6 := ⟨0, by omega, rfl, Below.refl _ _⟩
      have HST := Lib.hid hst
      clear hr6 hb6 HTake hst
      go_wp2
      clear hcr hcb hzx hzt
      go_loopw [15] (BackRel nx w6) (fun i _ => nx - (intOf i).toNat)
      case atStart => exact HST.out
      case round =>
        obtain ⟨k, hk, rfl, hbk⟩ := hrel
        have HXk := Lib.hid (IsB.below HX6.out hbk)
        have HBk6 := Lib.hid hbk
        clear hbk
        by_cases hlt : k < nx
        · have hki : (k : Int) < (nx : Int) := by omega
          have hIk : IsB ((elay u T).take k) (.slice Ax k cx) wr := IsV.take (f := bv) HXk.out (by omega)
          have htk := etake_any _ _ true wr hIk (by rw [List.length_take]; omega)
          rw [HCut.out k (by rw [HNx.out]; exact hlt)] at htk
          have HTk := Lib.hid htk
          have hkc : k ≤ cx := by omega
          clear htk hIk
          go_wp2_with fail
          refine HTk.out.mono ?_
          rintro e w7 ⟨r7, rfl, hr7, hb7⟩
          have HB7 := Lib.hid (below_then HBk6.out hb7)
          clear hr7 hb7 HTk
          go_wp2
          go_roundw
          case rel => exact ⟨k + 1, by omega, by go_num, HB7.out⟩
          case measure => simp [intOf]; omega
        · obtain rfl : k = nx := by omega
          have hki : ¬ (k : Int) < (k : Int) := by omega
          have HBr := Lib.hid (below_then HB6.out HBk6.out)
          go_wp2_with fail
          refine (HPut2.out _).mono ?_
          rintro e w8 ⟨x8, rfl, hx8, hb8⟩
          have HB8 := Lib.hid (below_then HBr.out hb8)
          have HX8 := Lib.hid hx8
          clear hb8
          obtain ⟨A8, n8, c8, rfl⟩ := IsV.shape (f := bv) hx8
          obtain ⟨h8, -, -, -, -⟩ := IsV.parts (f := bv) hx8
          obtain rfl : n8 = 0 := h8.symm
          clear hx8 h8
          go_wp2_with fail
          refine (etake_any _ _ false _ HX8.out (by simp)).mono ?_
          rintro e w9 ⟨r9, rfl, hr9, hb9⟩
          have HB9 := Lib.hid (below_then HB8.out hb9)
          clear hr9 hb9
          go_wp2
          go_ret
          exact ⟨rfl, HB9.out⟩
  · have hs2 : eplain x false = some x.toNat := by unfold eplain; rw [if_neg (by simp), if_pos (by omega)]
    rw [eput_ok hT3 hT10 hs2] at HPut2
    have hu64 := eplain_lt x0 x1 hs2
    have hbk2 := etake_back hu64 hT3 hT10 (emade_eplain x0 x1 hs2) []
    rw [List.append_nil] at hbk2
    have HBk2 := Lib.hid hbk2
    have HE9b := Lib.hid (show (elay x.toNat T).length ≤ 9 by rw [elay_len]; have := ebytes_8 hu64; omega)
    clear hs2 hu64 hbk2
    rcases (by omega : n20 ≤ 50 ∧ n2 = n20 ∨ 50 < n20 ∧ n2 = 50) with ⟨h6, rfl⟩ | ⟨h6, rfl⟩
    all_goals
      clear hmin2
      go_enter Try.func5, Try.ntmps5
      go_wp2_with fail
      refine (shown_any _).mono ?_
      rintro e w1 ⟨rfl, hb1⟩
      have HB1 := Lib.hid hb1
      have HJ2 := Lib.hid (IsB.below HI2.out hb1)
      clear hb1
      go_wp2_with fail
      refine (HPut.out _).mono ?_
      rintro e w3 ⟨x3, rfl, hx3, hb3⟩
      have HK2 := Lib.hid (IsB.below HJ2.out hb3)
      have HX3 := Lib.hid hx3
      have HB3 := Lib.hid (below_then HB1.out hb3)
      obtain ⟨Ax, nx, cx, rfl⟩ := IsV.shape (f := bv) hx3
      obtain ⟨hnx, hAx, hncx, hcmx, hlx⟩ := IsV.parts (f := bv) hx3
      obtain ⟨-, hA2, -, -, hl2⟩ := IsV.parts (f := bv) HK2.out
      have hcxi : (cx : Int) ≤ 9223372036854775807 := by unfold maxLen at hcmx; omega
      have hnx2 : (elay u T).length = nx := hnx
      have HNx := Lib.hid hnx2
      have HMx := Lib.hid (show ((elay u T).map bv).length = nx by rw [List.length_map]; exact hnx2)
      have hx9 : nx ≤ 9 := by have := HE9.out; omega
      have hx2 : 2 ≤ nx := by have := HE9.out; omega
      have hown0 : (w3.alloc (.cells #[] 5)).ownsRow w3.heap.size 5 1 (.slice (some ⟨w3.heap.size, 0, none⟩) 0 0) 0 [] := World.ownsRow_made w3 #[] 0 (Nat.le_refl _) (by unfold maxLen; omega) (by simp)
      have hbA : Below w3.heap.size w3 (w3.alloc (.cells #[] 5)) := (Below.refl _ _).alloc (Nat.le_refl _) _
      have hlA := hlx.below hbA
      have hzz : w3.heap.size ≤ (w3.alloc (.cells #[] 5)).heap.size := by simp
      have HL2 := Lib.hid hl2
      clear hb3 hx3 hnx hnx2 hlx hl2 HPut hcmx
      go_wp2_with (at_builtin; refine wpList_join elemB rfl (.tmp 42) (.tmp 43) rfl w3.heap.size _ _ _ _ _ _ ((elay u T).map bv) w3 rfl rfl hAx HMx.out hlA (bv_one _) hown0 hbA hzz (by omega) (by omega) ?_)
      intro v4 w4 hown4 hb4 _ _
      have hown4' : w4.ownsRow w3.heap.size 5 1 v4 nx ((elay u T).map bv) := by simpa using hown4
      have hlB := HL2.out.below hb4
      have hz4 := hb4.size
      clear hown4 hown0 hbA hlA hzz
      go_wp2_with (at_builtin; refine wpList_join elemB rfl (.tmp 44) (.tmp 45) rfl w3.heap.size _ _ _ _ _ _ (l2c.map bv) w3 rfl rfl hA2 HI2M.out hlB (bv_one l2c) hown4' hb4 hz4 (by omega) (by omega) ?_)
      intro v5 w5 hown5 hb5 _ _
      have hB5 : IsB (elay u T ++ l2c) v5 w5 := isB_own (by rw [List.map_append]; exact hown5)
      have HB5 := Lib.hid (below_then HB3.out hb5)
      have HX5 := Lib.hid (IsB.below HX3.out hb5)
      have HK5 := Lib.hid (IsB.below HK2.out hb5)
      have htake := etake_any (elay u T ++ l2c) v5 true w5 hB5 (by rw [List.length_append]; have := HE9.out; have := HI2L.out; omega)
      rw [HBk.out] at htake
      have HTake := Lib.hid htake
      clear htake hown5 hown4' hlB hz4 hB5 hb5 hb4
      go_wp2_with fail
      refine HTake.out.mono ?_
      rintro e w6 ⟨r6, rfl, hr6, hb6⟩
      have HX6 := Lib.hid (IsB.below HX5.out hb6)
      have HB6 := Lib.hid (below_then HB5.out hb6)
      have hcr := textB hr6
      have hcb := textB (IsB.below HK5.out hb6)
      have hzx : (x != x) = false := by simp
      have hzt : ((T : Int) != (T : Int)) = false := by simp
      have hst : BackRel nx w6 (.int .i64 0) w6 := ⟨0, by omega, rfl, Below.refl _ _⟩
      have HST := Lib.hid hst
      clear hr6 hb6 HTake hst
      go_wp2
      clear hcr hcb hzx hzt
      go_loopw [15] (BackRel nx w6) (fun i _ => nx - (intOf i).toNat)
      case atStart => exact HST.out
      case round =>
        obtain ⟨k, hk, rfl, hbk⟩ := hrel
        have HXk := Lib.hid (IsB.below HX6.out hbk)
        have HBk6 := Lib.hid hbk
        clear hbk
        by_cases hlt : k < nx
        · have hki : (k : Int) < (nx : Int) := by omega
          have hIk : IsB ((elay u T).take k) (.slice Ax k cx) wr := IsV.take (f := bv) HXk.out (by omega)
          have htk := etake_any _ _ true wr hIk (by rw [List.length_take]; omega)
          rw [HCut.out k (by rw [HNx.out]; exact hlt)] at htk
          have HTk := Lib.hid htk
          have hkc : k ≤ cx := by omega
          clear htk hIk
          go_wp2_with fail
          refine HTk.out.mono ?_
          rintro e w7 ⟨r7, rfl, hr7, hb7⟩
          have HB7 := Lib.hid (below_then HBk6.out hb7)
          clear hr7 hb7 HTk
          go_wp2
          go_roundw
          case rel => exact ⟨k + 1, by omega, by go_num, HB7.out⟩
          case measure => simp [intOf]; omega
        · obtain rfl : k = nx := by omega
          have hki : ¬ (k : Int) < (k : Int) := by omega
          have HBr := Lib.hid (below_then HB6.out HBk6.out)
          go_wp2_with fail
          refine (HPut2.out _).mono ?_
          rintro e w8 ⟨x8, rfl, hx8, hb8⟩
          have HB8 := Lib.hid (below_then HBr.out hb8)
          have HX8 := Lib.hid hx8
          clear hb8
          have ht9 := etake_any (elay x.toNat T) _ false _ HX8.out (by have := HE9b.out; omega)
          rw [HBk2.out] at ht9
          have HT9 := Lib.hid ht9
          clear hx8 ht9
          go_wp2_with fail
          refine HT9.out.mono ?_
          rintro e w9 ⟨r9, rfl, hr9, hb9⟩
          have HB9 := Lib.hid (below_then HB8.out hb9)
          have hzx : (x == x) = true := by simp
          have hzt : ((T : Int) == (T : Int)) = true := by simp
          clear hr9 hb9 HT9
          go_wp2
          go_ret
          exact ⟨rfl, HB9.out⟩

set_option maxRecDepth 100000 in
theorem RepeatBack_lifted (os : Os) (started : os.Started) (H : Type) (enc : TypeId × Value → H) :
    ReturnsInHanded {} Try.checked os 5 .any (Rows.repeatBackSpec.pre6 enc Try.prog Try.f5 Rows.repeatBackRow.domain false) (Rows.repeatBackSpec.post enc Try.prog Try.f5 false true false false) := by
  refine returnsInHanded_of_change (C := Try.checked) own started (by kernel_rfl) Try.func5
    (ChangeSpec.witness6 (enc := enc) (C := Try.checked) false ⟨#[], #[.int .i64 0, .int .i64 0, .slice none 0 0], []⟩ 8 (by kernel_rfl) (by kernel_rfl) (by kernel_rfl) (by kernel_rfl)) ?_
  intro W base args ds gs before hval0 hW hcnd _
  have hval : ∀ (j : Nat) t v, Try.f5.params[j]? = some t → args[j]? = some v → Value.okWide Try.prog W .any base t v := hval0
  have hW' := hW
  obtain ⟨p, q, hT0, hV, rfl, hfz, hnd⟩ := hW
  have hA : DataW.TrodAll enc Try.prog W 0 (fun _ => true) true Try.f5.params.toList args.toList ds p := hT0
  rw [Try.params5] at hA hval
  obtain ⟨v0, vs0, d0, ds0, p0, q0, hargs, rfl, rfl, h0, r0⟩ := trodAll_cons hA
  obtain ⟨v1, vs1, d1, ds1, p1, q1, rfl, rfl, rfl, h1, r1⟩ := trodAll_cons r0
  obtain ⟨v2, vs2, d2, ds2, p2, q2, rfl, rfl, rfl, h2, r2⟩ := trodAll_cons r1
  obtain ⟨rfl, rfl, rfl⟩ := trodAll_nil r2
  obtain rfl : args = #[v0, v1, v2] := by cases args; simp_all
  obtain ⟨rfl, rfl⟩ := trodVars_none hV
  obtain ⟨a0, rfl, rfl, rfl, w0⟩ := open_int Try.underlying3 (hval 0 3 v0 rfl rfl) h0
  obtain ⟨a1, rfl, rfl, rfl, w1⟩ := open_int Try.underlying3 (hval 1 3 v1 rfl rfl) h1
  have hlt2 : ∀ x ∈ p2, x.block < W.heap.size := fun x hx => hW'.lt x (by simp [hx])
  obtain ⟨l2, hl2⟩ := open_bytesv Try.underlying23 Try.underlying5 (by kernel_rfl) (hval 2 23 v2 rfl rfl) h2 hlt2
  clear hT0 hval0
  refine (RepeatBack_walk W a0 (wf_i64 w0).1 (wf_i64 w0).2 a1 (wf_i64 w1).1 (wf_i64 w1).2 v2 l2 hl2).mono fun e W' ⟨he, hb⟩ => ?_
  subst he
  exact ⟨_, rfl, law_post laidOut Try.underlying4 (by kernel_rfl) (by kernel_rfl) rfl hW' rfl hb⟩

theorem RepeatBack_over : Rows.repeatBackRow.holds Try.pinned (OpenSpec.ofChange Rows.repeatBackSpec) :=
  OpenClaim.holds_of_wide 5 Try.f5 rfl rfl rfl rfl rfl rfl rfl ⟨rfl, rfl, rfl, rfl, rfl⟩ rfl rfl rfl rfl rfl (by kernel_rfl) Try.func5 (by kernel_rfl)
    (of_decide_eq_true (by kernel_rfl)) (by unfold Func.isWrapper; first | (rw [if_pos (by decide +kernel)]; kernel_rfl) | (rw [if_neg (by decide +kernel)]; exact ⟨rfl, rfl⟩))
    (fun os started H enc _ => RepeatBack_lifted os started H enc)

theorem RepeatBack_holds : Rows.RepeatBackSaid := RepeatBack_over
#print axioms RepeatBack_holds

end Go.Proofs.Ythbmgedfhpdmpaa
