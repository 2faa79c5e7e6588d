
/- The statement WireTakes: for any bytes and any kind the law answers true. No condition. Written by gen_wire_laws2.py. -/

import Derived.Test.YtocodcceimeiiaaDoorG6
namespace Go.Proofs.YtocodcceimeiiaaDoor

open Go.RowKit Go.ChangeShapes Go.WideShapes Go.ChangeAt

set_option maxHeartbeats 8000000 in
set_option maxRecDepth 100000 in
theorem WireTakes_walk (w : World) (hU : Tryd.U8 w) (v0 : Value) (l0 : List UInt8) (hI0 : IsB l0 v0 w) (k : Int) (_hk0 : -9223372036854775808 ≤ k) (_hk1 : k ≤ 9223372036854775807) :
    Calls Tryd.prog 3 #[v0, .int .i64 k] w fun e w' => e = .returned (.bool true) ∧ Below w.heap.size w w' := by
  obtain ⟨A0, n00, c0, rfl⟩ := IsV.shape (f := bv) hI0
  obtain ⟨hn0, -, hc0, hm0, -⟩ := IsV.parts (f := bv) hI0
  obtain ⟨n0, hmin0⟩ : ∃ n, n = min n00 1000 := ⟨_, rfl⟩
  have HI := Lib.hid (IsV.take (f := bv) hI0 (show n0 ≤ n00 by omega))
  have HIL := Lib.hid (show (l0.take n0).length = n0 by rw [List.length_take]; omega)
  have hci0 : (c0 : Int) ≤ 9223372036854775807 := by unfold maxLen at hm0; omega
  have hnb0 : n0 ≤ 1000 := by omega
  have hnc0 : n0 ≤ c0 := by omega
  obtain ⟨l0c, hl0c⟩ : ∃ l, l = l0.take n0 := ⟨_, rfl⟩
  rw [← hl0c] at HI HIL
  clear hI0 hn0 hm0 hl0c
  have HIM := Lib.hid (show (l0c.map bv).length = n0 by rw [List.length_map]; exact HIL.out)
  have HU := Lib.hid hU
  obtain ⟨lT, z, t1, t2, t3⟩ := bothT l0c (by have := HIL.out; omega)
  obtain ⟨xb, xn, xs, x, t4, t5⟩ := bothV l0c (by have := HIL.out; omega)
  obtain ⟨gc, gh, lb, ln, ls, mb, mn, ms, gs, go, y, t6, t7⟩ := bothG k l0c (by have := HIL.out; omega)
  have HTL := Lib.hid t1
  have HT1 := Lib.hid t2
  have HT2 := Lib.hid t3
  have HV1 := Lib.hid t4
  have HV2 := Lib.hid t5
  have HG1x := Lib.hid t6
  have HG2x := Lib.hid t7
  clear hU t1 t2 t3 t4 t5 t6 t7
  rcases (by omega : n00 ≤ 1000 ∧ n0 = n00 ∨ 1000 < n00 ∧ n0 = 1000) with ⟨h6, rfl⟩ | ⟨h6, rfl⟩
  all_goals
    clear hmin0
    go_enter Tryd.func3, Tryd.ntmps3
    go_wp2_with fail
    refine (shown19_any w).mono ?_
    rintro e w1 ⟨rfl, hb⟩
    have HU := Lib.hid (Utf8Tabs_below HU.out hb)
    have HI := Lib.hid (IsB.below HI.out hb)
    have HB := Lib.hid hb
    clear hb
    obtain ⟨-, hA2, -, -, hlies2⟩ := IsV.parts (f := bv) HI.out
    have hown2 := ownW_made w1 5 1
    have hbA2 : Below w1.heap.size w1 (w1.alloc (.cells #[] 5)) := (Below.refl _ _).alloc (Nat.le_refl _) _
    have hlA2 := hlies2.below hbA2
    have hzz2 := hbA2.size
    clear hlies2
    go_wp2_with (at_builtin; refine wpList_join elemB rfl _ _ rfl w1.heap.size _ _ _ _ _ _ (l0c.map bv) w1 rfl rfl hA2 HIM.out hlA2 (bv_one l0c) hown2 hbA2 hzz2 (by omega) (by omega) ?_)
    intro v2 w2 ho hb _ _
    have HC := Lib.hid (show IsB l0c v2 w2 from isB_own (by simpa using ho))
    have HU := Lib.hid (Utf8Tabs_below HU.out hb)
    have HI := Lib.hid (IsB.below HI.out hb)
    have HB := Lib.hid (below_then HB.out hb)
    clear hown2 ho hbA2 hlA2 hzz2 hb hA2
    go_wp2_with fail
    refine (HT1.out v2 w2 HC.out).mono ?_
    rintro e w3 ⟨⟨fs, fu, rfl, he, hF⟩, hb⟩
    have HU := Lib.hid (Utf8Tabs_below HU.out hb)
    have HI := Lib.hid (IsB.below HI.out hb)
    have HB := Lib.hid (below_then HB.out hb)
    have HF := Lib.hid (hF)
    have HFE := Lib.hid (he)
    clear he hF hb
    go_wp2_with fail
    refine (HT2.out _ w3 HI.out).mono ?_
    rintro e w4 ⟨⟨ms_, mu, rfl, he, hF⟩, hb⟩
    have HU := Lib.hid (Utf8Tabs_below HU.out hb)
    have HI := Lib.hid (IsB.below HI.out hb)
    have HF := Lib.hid (IsFields.below HF.out hb)
    have HB := Lib.hid (below_then HB.out hb)
    have HM := Lib.hid (hF)
    have HME := Lib.hid (he)
    clear he hF hb
    obtain ⟨-, hA5, -, -, hlies5⟩ := IsV.parts (f := bv) HI.out
    have hown5 := ownW_made w4 5 1
    have hbA5 : Below w4.heap.size w4 (w4.alloc (.cells #[] 5)) := (Below.refl _ _).alloc (Nat.le_refl _) _
    have hlA5 := hlies5.below hbA5
    have hzz5 := hbA5.size
    clear hlies5
    go_wp2_with (at_builtin; refine wpList_join elemB rfl _ _ rfl w4.heap.size _ _ _ _ _ _ (l0c.map bv) w4 rfl rfl hA5 HIM.out hlA5 (bv_one l0c) hown5 hbA5 hzz5 (by omega) (by omega) ?_)
    intro v3 w5 ho hb _ _
    have HC := Lib.hid (show IsB l0c v3 w5 from isB_own (by simpa using ho))
    have HU := Lib.hid (Utf8Tabs_below HU.out hb)
    have HI := Lib.hid (IsB.below HI.out hb)
    have HF := Lib.hid (IsFields.below HF.out hb)
    have HM := Lib.hid (IsFields.below HM.out hb)
    have HB := Lib.hid (below_then HB.out hb)
    clear hown5 ho hbA5 hlA5 hzz5 hb hA5
    go_wp2_with fail
    refine (HV1.out v3 w5 HC.out).mono ?_
    rintro e w6 ⟨rfl, hb⟩
    have HU := Lib.hid (Utf8Tabs_below HU.out hb)
    have HI := Lib.hid (IsB.below HI.out hb)
    have HF := Lib.hid (IsFields.below HF.out hb)
    have HM := Lib.hid (IsFields.below HM.out hb)
    have HB := Lib.hid (below_then HB.out hb)
    clear hb
    obtain ⟨w7, hw⟩ : ∃ y, y = (w6.alloc (.cells #[.bool xb, .int .i64 xn, .string xs] 32)) := ⟨_, rfl⟩
    obtain ⟨g1, hg⟩ : ∃ y, y = w6.heap.size := ⟨_, rfl⟩
    have hb : Below w6.heap.size w6 w7 := by rw [hw]; exact (Below.refl _ _).alloc (Nat.le_refl _) _
    have hr : Row w7 g1 32 [.bool xb, .int .i64 xn, .string xs] := by rw [hw, hg]; exact heap_alloc_new w6 _
    have HU := Lib.hid (Utf8Tabs_below HU.out hb)
    have HI := Lib.hid (IsB.below HI.out hb)
    have HF := Lib.hid (IsFields.below HF.out hb)
    have HM := Lib.hid (IsFields.below HM.out hb)
    have HB := Lib.hid (below_then HB.out hb)
    have HR1 := Lib.hid hr
    have HZ1 := Lib.hid (show w7.heap.size = g1 + 1 by rw [hw, hg]; simp)
    have HW1 := Lib.hid hw
    have HG1 := Lib.hid hg
    clear hb hr hw hg
    go_wp2_with fail
    rw [← HW1.out, ← HG1.out]
    refine (HV2.out _ w7 HI.out).mono ?_
    rintro e w8 ⟨rfl, hb⟩
    have HU := Lib.hid (Utf8Tabs_below HU.out hb)
    have HI := Lib.hid (IsB.below HI.out hb)
    have HF := Lib.hid (IsFields.below HF.out hb)
    have HM := Lib.hid (IsFields.below HM.out hb)
    have HR1 := Lib.hid (HR1.out.below hb HR1.out.lt)
    have HB := Lib.hid (below_then HB.out hb)
    clear hb
    obtain ⟨w9, hw⟩ : ∃ y, y = (w8.alloc (.cells #[.bool xb, .int .i64 xn, .string xs] 32)) := ⟨_, rfl⟩
    obtain ⟨g2, hg⟩ : ∃ y, y = w8.heap.size := ⟨_, rfl⟩
    have hb : Below w8.heap.size w8 w9 := by rw [hw]; exact (Below.refl _ _).alloc (Nat.le_refl _) _
    have hr : Row w9 g2 32 [.bool xb, .int .i64 xn, .string xs] := by rw [hw, hg]; exact heap_alloc_new w8 _
    have HU := Lib.hid (Utf8Tabs_below HU.out hb)
    have HI := Lib.hid (IsB.below HI.out hb)
    have HF := Lib.hid (IsFields.below HF.out hb)
    have HM := Lib.hid (IsFields.below HM.out hb)
    have HR1 := Lib.hid (HR1.out.below hb HR1.out.lt)
    have HB := Lib.hid (below_then HB.out hb)
    have HR2 := Lib.hid hr
    have HZ2 := Lib.hid (show w9.heap.size = g2 + 1 by rw [hw, hg]; simp)
    have HW2 := Lib.hid hw
    have HG2 := Lib.hid hg
    clear hb hr hw hg
    obtain ⟨-, hA10, -, -, hlies10⟩ := IsV.parts (f := bv) HI.out
    have hown10 := ownW_made w9 5 1
    have hbA10 : Below w9.heap.size w9 (w9.alloc (.cells #[] 5)) := (Below.refl _ _).alloc (Nat.le_refl _) _
    have hlA10 := hlies10.below hbA10
    have hzz10 := hbA10.size
    clear hlies10
    go_wp2_with (at_builtin; rw [← HW2.out, ← HG2.out, ← HZ2.out]; refine wpList_join elemB rfl _ _ rfl w9.heap.size _ _ _ _ _ _ (l0c.map bv) w9 rfl rfl hA10 HIM.out hlA10 (bv_one l0c) hown10 hbA10 hzz10 (by omega) (by omega) ?_)
    intro v4 w10 ho hb _ _
    have HC := Lib.hid (show IsB l0c v4 w10 from isB_own (by simpa using ho))
    have HU := Lib.hid (Utf8Tabs_below HU.out hb)
    have HI := Lib.hid (IsB.below HI.out hb)
    have HF := Lib.hid (IsFields.below HF.out hb)
    have HM := Lib.hid (IsFields.below HM.out hb)
    have HR1 := Lib.hid (HR1.out.below hb HR1.out.lt)
    have HR2 := Lib.hid (HR2.out.below hb HR2.out.lt)
    have HB := Lib.hid (below_then HB.out hb)
    clear hown10 ho hbA10 hlA10 hzz10 hb hA10
    go_wp2_with fail
    refine (HG1x.out v4 w10 HC.out).mono ?_
    rintro e w11 ⟨rfl, hb⟩
    have HU := Lib.hid (Utf8Tabs_below HU.out hb)
    have HI := Lib.hid (IsB.below HI.out hb)
    have HF := Lib.hid (IsFields.below HF.out hb)
    have HM := Lib.hid (IsFields.below HM.out hb)
    have HR1 := Lib.hid (HR1.out.below hb HR1.out.lt)
    have HR2 := Lib.hid (HR2.out.below hb HR2.out.lt)
    have HB := Lib.hid (below_then HB.out hb)
    clear hb
    obtain ⟨w12, hw⟩ : ∃ y, y = (w11.alloc (.cells #[.int .i64 gc, .bool gh, .bool lb, .int .i64 ln, .string ls, .bool mb, .int .i64 mn, .string ms, .int .i64 gs, .bool go] 36)) := ⟨_, rfl⟩
    obtain ⟨g3, hg⟩ : ∃ y, y = w11.heap.size := ⟨_, rfl⟩
    have hb : Below w11.heap.size w11 w12 := by rw [hw]; exact (Below.refl _ _).alloc (Nat.le_refl _) _
    have hr : Row w12 g3 36 [.int .i64 gc, .bool gh, .bool lb, .int .i64 ln, .string ls, .bool mb, .int .i64 mn, .string ms, .int .i64 gs, .bool go] := by rw [hw, hg]; exact heap_alloc_new w11 _
    have HU := Lib.hid (Utf8Tabs_below HU.out hb)
    have HI := Lib.hid (IsB.below HI.out hb)
    have HF := Lib.hid (IsFields.below HF.out hb)
    have HM := Lib.hid (IsFields.below HM.out hb)
    have HR1 := Lib.hid (HR1.out.below hb HR1.out.lt)
    have HR2 := Lib.hid (HR2.out.below hb HR2.out.lt)
    have HB := Lib.hid (below_then HB.out hb)
    have HR3 := Lib.hid hr
    have HZ3 := Lib.hid (show w12.heap.size = g3 + 1 by rw [hw, hg]; simp)
    have HW3 := Lib.hid hw
    have HG3 := Lib.hid hg
    clear hb hr hw hg
    go_wp2_with fail
    rw [← HW3.out, ← HG3.out]
    refine (HG2x.out _ w12 HI.out HU.out).mono ?_
    rintro e w13 ⟨rfl, hb⟩
    have HU := Lib.hid (Utf8Tabs_below HU.out hb)
    have HI := Lib.hid (IsB.below HI.out hb)
    have HF := Lib.hid (IsFields.below HF.out hb)
    have HM := Lib.hid (IsFields.below HM.out hb)
    have HR1 := Lib.hid (HR1.out.below hb HR1.out.lt)
    have HR2 := Lib.hid (HR2.out.below hb HR2.out.lt)
    have HR3 := Lib.hid (HR3.out.below hb HR3.out.lt)
    have HB := Lib.hid (below_then HB.out hb)
    clear hb
    obtain ⟨w14, hw⟩ : ∃ y, y = (w13.alloc (.cells #[.int .i64 gc, .bool gh, .bool lb, .int .i64 ln, .string ls, .bool mb, .int .i64 mn, .string ms, .int .i64 gs, .bool go] 36)) := ⟨_, rfl⟩
    obtain ⟨g4, hg⟩ : ∃ y, y = w13.heap.size := ⟨_, rfl⟩
    have hb : Below w13.heap.size w13 w14 := by rw [hw]; exact (Below.refl _ _).alloc (Nat.le_refl _) _
    have hr : Row w14 g4 36 [.int .i64 gc, .bool gh, .bool lb, .int .i64 ln, .string ls, .bool mb, .int .i64 mn, .string ms, .int .i64 gs, .bool go] := by rw [hw, hg]; exact heap_alloc_new w13 _
    have HU := Lib.hid (Utf8Tabs_below HU.out hb)
    have HI := Lib.hid (IsB.below HI.out hb)
    have HF := Lib.hid (IsFields.below HF.out hb)
    have HM := Lib.hid (IsFields.below HM.out hb)
    have HR1 := Lib.hid (HR1.out.below hb HR1.out.lt)
    have HR2 := Lib.hid (HR2.out.below hb HR2.out.lt)
    have HR3 := Lib.hid (HR3.out.below hb HR3.out.lt)
    have HB := Lib.hid (below_then HB.out hb)
    have HR4 := Lib.hid hr
    have HZ4 := Lib.hid (show w14.heap.size = g4 + 1 by rw [hw, hg]; simp)
    have HW4 := Lib.hid hw
    have HG4 := Lib.hid hg
    clear hb hr hw hg
    go_wp2_with fail
    rw [← HW4.out, ← HG4.out]
    refine (fsameK_any fs ms_ fu mu w14 HF.out HM.out (by have := congrArg List.length HFE.out; rw [List.length_map] at this; have := HTL.out; omega) (fun k W h1 h2 => rfsame_any fs ms_ k _ W h1 h2 (HFE.out.trans HME.out.symm) (by have := congrArg List.length HFE.out; rw [List.length_map] at this; have := HTL.out; omega))).mono ?_
    rintro e w15 ⟨rfl, hb⟩
    have HU := Lib.hid (Utf8Tabs_below HU.out hb)
    have HI := Lib.hid (IsB.below HI.out hb)
    have HF := Lib.hid (IsFields.below HF.out hb)
    have HM := Lib.hid (IsFields.below HM.out hb)
    have HR1 := Lib.hid (HR1.out.below hb HR1.out.lt)
    have HR2 := Lib.hid (HR2.out.below hb HR2.out.lt)
    have HR3 := Lib.hid (HR3.out.below hb HR3.out.lt)
    have HR4 := Lib.hid (HR4.out.below hb HR4.out.lt)
    have HB := Lib.hid (below_then HB.out hb)
    clear hb
    have c10 : w15.cell? ⟨g1, 0, none⟩ = some (.bool xb) := HR1.out.cell 0
    have c11 : w15.cell? ⟨g1, 1, none⟩ = some (.int .i64 xn) := HR1.out.cell 1
    have c12 : w15.cell? ⟨g1, 2, none⟩ = some (.string xs) := HR1.out.cell 2
    have c20 : w15.cell? ⟨g2, 0, none⟩ = some (.bool xb) := HR2.out.cell 0
    have c21 : w15.cell? ⟨g2, 1, none⟩ = some (.int .i64 xn) := HR2.out.cell 1
    have c22 : w15.cell? ⟨g2, 2, none⟩ = some (.string xs) := HR2.out.cell 2
    have c30 : w15.cell? ⟨g3, 0, none⟩ = some (.int .i64 gc) := HR3.out.cell 0
    have c31 : w15.cell? ⟨g3, 1, none⟩ = some (.bool gh) := HR3.out.cell 1
    have c32 : w15.cell? ⟨g3, 2, none⟩ = some (.bool lb) := HR3.out.cell 2
    have c33 : w15.cell? ⟨g3, 3, none⟩ = some (.int .i64 ln) := HR3.out.cell 3
    have c34 : w15.cell? ⟨g3, 4, none⟩ = some (.string ls) := HR3.out.cell 4
    have c35 : w15.cell? ⟨g3, 5, none⟩ = some (.bool mb) := HR3.out.cell 5
    have c36 : w15.cell? ⟨g3, 6, none⟩ = some (.int .i64 mn) := HR3.out.cell 6
    have c37 : w15.cell? ⟨g3, 7, none⟩ = some (.string ms) := HR3.out.cell 7
    have c38 : w15.cell? ⟨g3, 8, none⟩ = some (.int .i64 gs) := HR3.out.cell 8
    have c39 : w15.cell? ⟨g3, 9, none⟩ = some (.bool go) := HR3.out.cell 9
    have c40 : w15.cell? ⟨g4, 0, none⟩ = some (.int .i64 gc) := HR4.out.cell 0
    have c41 : w15.cell? ⟨g4, 1, none⟩ = some (.bool gh) := HR4.out.cell 1
    have c42 : w15.cell? ⟨g4, 2, none⟩ = some (.bool lb) := HR4.out.cell 2
    have c43 : w15.cell? ⟨g4, 3, none⟩ = some (.int .i64 ln) := HR4.out.cell 3
    have c44 : w15.cell? ⟨g4, 4, none⟩ = some (.string ls) := HR4.out.cell 4
    have c45 : w15.cell? ⟨g4, 5, none⟩ = some (.bool mb) := HR4.out.cell 5
    have c46 : w15.cell? ⟨g4, 6, none⟩ = some (.int .i64 mn) := HR4.out.cell 6
    have c47 : w15.cell? ⟨g4, 7, none⟩ = some (.string ms) := HR4.out.cell 7
    have c48 : w15.cell? ⟨g4, 8, none⟩ = some (.int .i64 gs) := HR4.out.cell 8
    have c49 : w15.cell? ⟨g4, 9, none⟩ = some (.bool go) := HR4.out.cell 9
    have q1 : ∀ W, (binOp .eql 32 (.agg #[.bool xb, .int .i64 xn, .string xs]) (.agg #[.bool xb, .int .i64 xn, .string xs])).run Tryd.prog W = .ok (.bool true) W := fun W => eqV_run (⟨xb, xn, xs⟩ : CV) W
    have q2 : ∀ W, (binOp .eql 36 (.agg #[.int .i64 gc, .bool gh, .bool lb, .int .i64 ln, .string ls, .bool mb, .int .i64 mn, .string ms, .int .i64 gs, .bool go]) (.agg #[.int .i64 gc, .bool gh, .bool lb, .int .i64 ln, .string ls, .bool mb, .int .i64 mn, .string ms, .int .i64 gs, .bool go])).run Tryd.prog W = .ok (.bool true) W := fun W => eqS_run (⟨gc, gh, ⟨lb, ln, ls⟩, ⟨mb, mn, ms⟩, gs, go⟩ : GS) W
    have q3 : ∀ W, (Op.equalIn 10000 32 (.agg #[.bool xb, .int .i64 xn, .string xs]) (.agg #[.bool xb, .int .i64 xn, .string xs])).run Tryd.prog W = .ok true W := fun W => eqV_in (⟨xb, xn, xs⟩ : CV) W
    have q4 : ∀ W, (Op.equalIn 10000 36 (.agg #[.int .i64 gc, .bool gh, .bool lb, .int .i64 ln, .string ls, .bool mb, .int .i64 mn, .string ms, .int .i64 gs, .bool go]) (.agg #[.int .i64 gc, .bool gh, .bool lb, .int .i64 ln, .string ls, .bool mb, .int .i64 mn, .string ms, .int .i64 gs, .bool go])).run Tryd.prog W = .ok true W := fun W => eqS_in (⟨gc, gh, ⟨lb, ln, ls⟩, ⟨mb, mn, ms⟩, gs, go⟩ : GS) W
    have q5 : ∀ x y W, (eqGuard .eql 32 x y (.agg #[.bool xb, .int .i64 xn, .string xs]) (.agg #[.bool xb, .int .i64 xn, .string xs])).run Tryd.prog W = .ok () W := fun x y W => eqV_guard (⟨xb, xn, xs⟩ : CV) (⟨xb, xn, xs⟩ : CV) x y W
    have q6 : ∀ x y W, (eqGuard .eql 36 x y (.agg #[.int .i64 gc, .bool gh, .bool lb, .int .i64 ln, .string ls, .bool mb, .int .i64 mn, .string ms, .int .i64 gs, .bool go]) (.agg #[.int .i64 gc, .bool gh, .bool lb, .int .i64 ln, .string ls, .bool mb, .int .i64 mn, .string ms, .int .i64 gs, .bool go])).run Tryd.prog W = .ok () W := fun x y W => eqS_guard (⟨gc, gh, ⟨lb, ln, ls⟩, ⟨mb, mn, ms⟩, gs, go⟩ : GS) (⟨gc, gh, ⟨lb, ln, ls⟩, ⟨mb, mn, ms⟩, gs, go⟩ : GS) x y W
    have z1 : (x == x) = true := by simp
    have z2 : (y == y) = true := by simp
    have z3 : (z == z) = true := by simp
    go_wp2
    go_ret
    exact ⟨rfl, HB.out⟩
set_option maxRecDepth 100000 in
theorem WireTakes_lifted (os : Os) (started : os.Started) (H : Type) (enc : TypeId × Value → H) :
    ReturnsInHanded {} Tryd.checked os 3 .any (fun w args => (Rows.wireTakesSpec.pre enc Tryd.prog Tryd.f3 [] false w args ∧ laidMetH Tryd.prog [("unicode/utf8.acceptRanges", Rows.laid_unicode_utf8_acceptRanges), ("unicode/utf8.first", Rows.laid_unicode_utf8_first)] w) ∧ sizedMet enc Tryd.prog Tryd.f3 (OpenSpec.ofChange Rows.wireTakesSpec) false w args) (Rows.wireTakesSpec.post enc Tryd.prog Tryd.f3 false true false false) := by
  refine returnsInHanded_of_change_and (C := Tryd.checked) (X := fun w _ => laidMetH Tryd.prog [("unicode/utf8.acceptRanges", Rows.laid_unicode_utf8_acceptRanges), ("unicode/utf8.first", Rows.laid_unicode_utf8_first)] w) (fun _ _ _ hh h => h.of_heap hh) own started (by kernel_rfl) Tryd.func3
    (ChangeSpec.witness_shaped (enc := enc) (C := Tryd.checked) (os := os) (X := fun w _ => laidMetH Tryd.prog [("unicode/utf8.acceptRanges", Rows.laid_unicode_utf8_acceptRanges), ("unicode/utf8.first", Rows.laid_unicode_utf8_first)] w) false (World.laidAll Tryd.prog os [("unicode/utf8.acceptRanges", Rows.laid_unicode_utf8_acceptRanges), ("unicode/utf8.first", Rows.laid_unicode_utf8_first)]) #[.slice none 0 0, .int .i64 0] 8 (World.laidAll_os _ _ _) (World.shaped_of_ZipB (by kernel_rfl) (by kernel_rfl)) (by kernel_rfl) (by kernel_rfl) (by kernel_rfl) (by rw [MakeChecks.laidMetH_plain _ _ _ (by kernel_rfl)]; exact laidMet_laidAll _ (by kernel_rfl) (by kernel_rfl))) ?_
  intro W base args ds gs before hval0 hW _ hsz hL _
  have hT := u8_of hL
  clear hL
  have hval : ∀ (j : Nat) t v, Tryd.f3.params[j]? = some t → args[j]? = some v → Value.okWide Tryd.prog W .any base t v := hval0
  have hW' := hW
  obtain ⟨p, q, hT0, hV, rfl, hfz, hnd⟩ := hW
  have hA : DataW.TrodAll enc Tryd.prog W 0 (fun _ => true) true Tryd.f3.params.toList args.toList ds p := hT0
  rw [Tryd.params3] at hA hval
  obtain ⟨v0, vs0, d0, ds0, p0, q0, hargs, rfl, rfl, h0, r0⟩ := trodAll_cons hA
  obtain ⟨v1, vs1, d1, ds1, p1, q1, rfl, rfl, rfl, h1, r1⟩ := trodAll_cons r0
  obtain ⟨rfl, rfl, rfl⟩ := trodAll_nil r1
  obtain rfl : args = #[v0, v1] := by cases args; simp_all
  obtain ⟨rfl, rfl⟩ := trodVars_none hV
  have hlt0 : ∀ x ∈ p0, x.block < W.heap.size := fun x hx => hW'.lt x (by simp [hx])
  obtain ⟨l0, hl0⟩ := open_bytesv Tryd.underlying22 Tryd.underlying5 (by kernel_rfl) (hval 0 22 v0 rfl rfl) h0 hlt0
  obtain ⟨a1, rfl, rfl, rfl, w1⟩ := open_int Tryd.underlying3 (hval 1 3 v1 rfl rfl) h1
  clear hT0 hval0
  refine (WireTakes_walk W hT v0 l0 hl0 a1 (wf_i64 w1).1 (wf_i64 w1).2).mono fun e W' ⟨he, hb⟩ => ?_
  subst he
  exact ⟨_, rfl, law_post laidOut Tryd.underlying4 (by kernel_rfl) (by kernel_rfl) rfl hW' rfl hb⟩

theorem WireTakes_over : Rows.wireTakesRow.holds Tryd.pinned (OpenSpec.ofChange Rows.wireTakesSpec) :=
  OpenClaim.holds_of_wide 3 Tryd.f3 rfl rfl rfl rfl rfl rfl rfl ⟨rfl, rfl, rfl, rfl, rfl⟩ rfl rfl rfl rfl rfl (by kernel_rfl) Tryd.func3 (by kernel_rfl)
    (of_decide_eq_true (by kernel_rfl)) (by unfold Func.isWrapper; first | (rw [if_pos (by decide +kernel)]; kernel_rfl) | (rw [if_neg (by decide +kernel)]; exact ⟨rfl, rfl⟩))
    (fun os started H enc _ => WireTakes_lifted os started H enc)

theorem WireTakes_holds : Rows.WireTakesCardSaid :=
  Claim7.holds_tied_plain_at .later [] _ true _ _ WireTakes_over (fun _ h => by cases h) (by kernel_rfl) (fun _ h => by cases h) wireTakes_row_tie rfl ⟨rfl, rfl⟩ (by kernel_rfl) rfl
    (fun f fn hf hfn => by
      obtain rfl : f = 3 := Option.some.inj ((show Tryd.prog.funcNamed "pilaster/pilasterlaw19.WireTakes" = some 3 by kernel_rfl).symm.trans hf) |>.symm
      obtain rfl : fn = Tryd.f3 := (Option.some.inj (Tryd.func3.symm.trans hfn)).symm
      exact ⟨by kernel_rfl, fun j t ht => stand_ins (by kernel_rfl) ht⟩)
    (by kernel_rfl)
#print axioms WireTakes_holds

end Go.Proofs.YtocodcceimeiiaaDoor
