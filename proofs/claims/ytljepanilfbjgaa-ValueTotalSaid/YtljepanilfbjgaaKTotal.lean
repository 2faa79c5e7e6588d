
/- The statement ValueTotal: for any three values the law answers true. No condition. -/

import Derived.Test.YtljepanilfbjgaaKShown

import Derived.Test.YtljepanilfbjgaaKOpen

import Derived.Test.YtljepanilfbjgaaLaw

import Derived.StillTailTactics

namespace Go.Proofs.Ytljepanilfbjgaa

open Go.RowKit Go.ChangeShapes Go.WideShapes Go.ChangeAt

set_option maxHeartbeats 4000000 in
set_option maxRecDepth 100000 in
theorem ValueTotal_walk (w : World) (a : CV) (hai : a.inInt) (has : a.s.size ≤ maxLen) (b : CV) (hbi : b.inInt) (hbs : b.s.size ≤ maxLen) (c : CV) (hci : c.inInt) (hcs : c.s.size ≤ maxLen) :
    Calls Try.prog 4 #[cv a, cv b, cv c] w fun e w' => e = .returned (.bool true) ∧ Below w.heap.size w w' := by
  have hr0_0 : Row (w.alloc (.cells #[.bool a.null, .int .i64 a.n, .string a.s] 23)) (w.heap.size) 23 [.bool a.null, .int .i64 a.n, .string a.s] := by
    have h := heap_alloc_new w (.cells #[.bool a.null, .int .i64 a.n, .string a.s] 23)
    exact h
  have hr1_1 : Row ((w.alloc (.cells #[.bool a.null, .int .i64 a.n, .string a.s] 23)).alloc (.cells #[.bool b.null, .int .i64 b.n, .string b.s] 23)) (w.heap.size + 1) 23 [.bool b.null, .int .i64 b.n, .string b.s] := by
    have h := heap_alloc_new (w.alloc (.cells #[.bool a.null, .int .i64 a.n, .string a.s] 23)) (.cells #[.bool b.null, .int .i64 b.n, .string b.s] 23)
    rw [show (w.alloc (.cells #[.bool a.null, .int .i64 a.n, .string a.s] 23)).heap.size = w.heap.size + 1 by simp] at h
    exact h
  have hr0_1 := hr0_0.alloc (.cells #[.bool b.null, .int .i64 b.n, .string b.s] 23)
  have hr2_2 : Row (((w.alloc (.cells #[.bool a.null, .int .i64 a.n, .string a.s] 23)).alloc (.cells #[.bool b.null, .int .i64 b.n, .string b.s] 23)).alloc (.cells #[.bool c.null, .int .i64 c.n, .string c.s] 23)) (w.heap.size + 2) 23 [.bool c.null, .int .i64 c.n, .string c.s] := by
    have h := heap_alloc_new ((w.alloc (.cells #[.bool a.null, .int .i64 a.n, .string a.s] 23)).alloc (.cells #[.bool b.null, .int .i64 b.n, .string b.s] 23)) (.cells #[.bool c.null, .int .i64 c.n, .string c.s] 23)
    rw [show ((w.alloc (.cells #[.bool a.null, .int .i64 a.n, .string a.s] 23)).alloc (.cells #[.bool b.null, .int .i64 b.n, .string b.s] 23)).heap.size = w.heap.size + 2 by simp] at h
    exact h
  have hr0_2 := hr0_1.alloc (.cells #[.bool c.null, .int .i64 c.n, .string c.s] 23)
  have hr1_2 := hr1_1.alloc (.cells #[.bool c.null, .int .i64 c.n, .string c.s] 23)
  have hb0 : Below w.heap.size w (((w.alloc (.cells #[.bool a.null, .int .i64 a.n, .string a.s] 23)).alloc (.cells #[.bool b.null, .int .i64 b.n, .string b.s] 23)).alloc (.cells #[.bool c.null, .int .i64 c.n, .string c.s] 23)) := (((Below.refl _ _).alloc (Nat.le_refl _) _).alloc (by simp <;> omega) _).alloc (by simp <;> omega) _
  have HB0 := Lib.hid hb0
  have HR0 := Lib.hid hr0_2
  have HR1 := Lib.hid hr1_2
  have HR2 := Lib.hid hr2_2
  have HZ := Lib.hid (show (((w.alloc (.cells #[.bool a.null, .int .i64 a.n, .string a.s] 23)).alloc (.cells #[.bool b.null, .int .i64 b.n, .string b.s] 23)).alloc (.cells #[.bool c.null, .int .i64 c.n, .string c.s] 23)).heap.size = w.heap.size + 3 by simp)
  clear hb0 hr0_0 hr0_1 hr1_1 hr0_2 hr1_2 hr2_2
  have HA := Lib.hid hai
  have HSA := Lib.hid has
  have HB := Lib.hid hbi
  have HSB := Lib.hid hbs
  have HC := Lib.hid hci
  have HSC := Lib.hid hcs
  clear hai has hbi hbs hci hcs
  unfold cv
  go_enter Try.func4, Try.ntmps4
  go_wp2_with fail
  refine (shown_any _).mono ?_
  rintro e w1 ⟨rfl, hb1⟩
  have HB1 := Lib.hid (below_then HB0.out hb1)
  have HS0 := Lib.hid (HR0.out.below hb1 (by have := HZ.out; omega))
  have HS1 := Lib.hid (HR1.out.below hb1 (by have := HZ.out; omega))
  have HS2 := Lib.hid (HR2.out.below hb1 (by have := HZ.out; omega))
  have HZ1 := Lib.hid (Nat.le_trans (Nat.le_of_eq HZ.out.symm) hb1.size)
  clear hb1 HR0 HR1 HR2
  have C1 := Lib.hid (fun W => kcmp_any a b W HA.out HB.out HSA.out HSB.out)
  have C2 := Lib.hid (fun W => kcmp_any b a W HB.out HA.out HSB.out HSA.out)
  have C3 := Lib.hid (fun W => kcmp_any b c W HB.out HC.out HSB.out HSC.out)
  have C4 := Lib.hid (fun W => kcmp_any a c W HA.out HC.out HSA.out HSC.out)
  have C5 := Lib.hid (fun W => kcmp_any ⟨true, -9223372036854775808, ⟨#[]⟩⟩ a W (by unfold CV.inInt; dsimp only; omega) HA.out (by simp [ByteArray.size]) HSA.out)
  have C6 := Lib.hid (fun W => ksame_any a a W HA.out HA.out HSA.out HSA.out)
  rw [show (kcmp a a == 0) = true by rw [kcmp_self]; rfl] at C6
  unfold cv at C1 C2 C3 C4 C5 C6
  dsimp only at C5
  have g1 := kcmp_bd a b
  have g2 := kcmp_neg a b
  have g3 := @kcmp_trans a b c
  have g4 := kcmp_least a HA.out
  obtain ⟨x, hx⟩ : ∃ x, x = kcmp a b := ⟨_, rfl⟩
  rw [← hx] at C1 g1 g2 g3
  have Gx := Lib.hid hx
  clear hx
  obtain ⟨y, hy⟩ : ∃ y, y = kcmp b a := ⟨_, rfl⟩
  rw [← hy] at C2 g2
  have Gy := Lib.hid hy
  clear hy
  obtain ⟨z, hz⟩ : ∃ z, z = kcmp b c := ⟨_, rfl⟩
  rw [← hz] at C3 g3
  have Gz := Lib.hid hz
  clear hz
  obtain ⟨u, hu⟩ : ∃ u, u = kcmp a c := ⟨_, rfl⟩
  rw [← hu] at C4 g3
  have Gu := Lib.hid hu
  clear hu
  obtain ⟨t, ht⟩ : ∃ t, t = kcmp ⟨true, -9223372036854775808, ⟨#[]⟩⟩ a := ⟨_, rfl⟩
  rw [← ht] at C5 g4
  have Gt := Lib.hid ht
  clear ht
  have d5 : decide (t ≤ 0) = true := decide_eq_true g4
  by_cases g5 : 0 < z
  · have d3 : decide (0 < z) = true := decide_eq_true g5
    rcases g1 with rfl | rfl | rfl
    · obtain rfl : y = 1 := by omega
      clear g2 g3 g4 g5
      have k00 := HS0.out.cell 0
      have k01 := HS0.out.cell 1
      have k02 := HS0.out.cell 2
      have k10 := HS1.out.cell 0
      have k11 := HS1.out.cell 1
      have k12 := HS1.out.cell 2
      have k20 := HS2.out.cell 0
      have k21 := HS2.out.cell 1
      have k22 := HS2.out.cell 2
      go_wp2_with fail
      refine (C1.out _).mono ?_
      rintro e w2 ⟨rfl, hb2⟩
      clear k00 k01 k02 k10 k11 k12 k20 k21 k22
      have HS0_2 := Lib.hid (HS0.out.below hb2 (by have := HZ1.out; omega))
      have HS1_2 := Lib.hid (HS1.out.below hb2 (by have := HZ1.out; omega))
      have HS2_2 := Lib.hid (HS2.out.below hb2 (by have := HZ1.out; omega))
      have HB2 := Lib.hid (below_then HB1.out hb2)
      have HZ2 := Lib.hid (Nat.le_trans HZ1.out hb2.size)
      clear HS0 HS1 HS2 hb2 HB1 HZ1
      have k00 := HS0_2.out.cell 0
      have k01 := HS0_2.out.cell 1
      have k02 := HS0_2.out.cell 2
      have k10 := HS1_2.out.cell 0
      have k11 := HS1_2.out.cell 1
      have k12 := HS1_2.out.cell 2
      have k20 := HS2_2.out.cell 0
      have k21 := HS2_2.out.cell 1
      have k22 := HS2_2.out.cell 2
      go_wp2_with fail
      refine (C2.out _).mono ?_
      rintro e w3 ⟨rfl, hb3⟩
      clear k00 k01 k02 k10 k11 k12 k20 k21 k22
      have HS0_3 := Lib.hid (HS0_2.out.below hb3 (by have := HZ2.out; omega))
      have HS1_3 := Lib.hid (HS1_2.out.below hb3 (by have := HZ2.out; omega))
      have HS2_3 := Lib.hid (HS2_2.out.below hb3 (by have := HZ2.out; omega))
      have HB3 := Lib.hid (below_then HB2.out hb3)
      have HZ3 := Lib.hid (Nat.le_trans HZ2.out hb3.size)
      clear HS0_2 HS1_2 HS2_2 hb3 HB2 HZ2
      have k00 := HS0_3.out.cell 0
      have k01 := HS0_3.out.cell 1
      have k02 := HS0_3.out.cell 2
      have k10 := HS1_3.out.cell 0
      have k11 := HS1_3.out.cell 1
      have k12 := HS1_3.out.cell 2
      have k20 := HS2_3.out.cell 0
      have k21 := HS2_3.out.cell 1
      have k22 := HS2_3.out.cell 2
      go_wp2_with fail
      refine (C1.out _).mono ?_
      rintro e w4 ⟨rfl, hb4⟩
      clear k00 k01 k02 k10 k11 k12 k20 k21 k22
      have HS0_4 := Lib.hid (HS0_3.out.below hb4 (by have := HZ3.out; omega))
      have HS1_4 := Lib.hid (HS1_3.out.below hb4 (by have := HZ3.out; omega))
      have HS2_4 := Lib.hid (HS2_3.out.below hb4 (by have := HZ3.out; omega))
      have HB4 := Lib.hid (below_then HB3.out hb4)
      have HZ4 := Lib.hid (Nat.le_trans HZ3.out hb4.size)
      clear HS0_3 HS1_3 HS2_3 hb4 HB3 HZ3
      have k00 := HS0_4.out.cell 0
      have k01 := HS0_4.out.cell 1
      have k02 := HS0_4.out.cell 2
      have k10 := HS1_4.out.cell 0
      have k11 := HS1_4.out.cell 1
      have k12 := HS1_4.out.cell 2
      have k20 := HS2_4.out.cell 0
      have k21 := HS2_4.out.cell 1
      have k22 := HS2_4.out.cell 2
      go_wp2_with fail
      refine (C3.out _).mono ?_
      rintro e w5 ⟨rfl, hb5⟩
      clear k00 k01 k02 k10 k11 k12 k20 k21 k22
      have HS0_5 := Lib.hid (HS0_4.out.below hb5 (by have := HZ4.out; omega))
      have HS1_5 := Lib.hid (HS1_4.out.below hb5 (by have := HZ4.out; omega))
      have HS2_5 := Lib.hid (HS2_4.out.below hb5 (by have := HZ4.out; omega))
      have HB5 := Lib.hid (below_then HB4.out hb5)
      have HZ5 := Lib.hid (Nat.le_trans HZ4.out hb5.size)
      clear HS0_4 HS1_4 HS2_4 hb5 HB4 HZ4
      have k00 := HS0_5.out.cell 0
      have k01 := HS0_5.out.cell 1
      have k02 := HS0_5.out.cell 2
      have k10 := HS1_5.out.cell 0
      have k11 := HS1_5.out.cell 1
      have k12 := HS1_5.out.cell 2
      have k20 := HS2_5.out.cell 0
      have k21 := HS2_5.out.cell 1
      have k22 := HS2_5.out.cell 2
      go_wp2_with fail
      refine (C5.out _).mono ?_
      rintro e w6 ⟨rfl, hb6⟩
      clear k00 k01 k02 k10 k11 k12 k20 k21 k22
      have HS0_6 := Lib.hid (HS0_5.out.below hb6 (by have := HZ5.out; omega))
      have HS1_6 := Lib.hid (HS1_5.out.below hb6 (by have := HZ5.out; omega))
      have HS2_6 := Lib.hid (HS2_5.out.below hb6 (by have := HZ5.out; omega))
      have HB6 := Lib.hid (below_then HB5.out hb6)
      have HZ6 := Lib.hid (Nat.le_trans HZ5.out hb6.size)
      clear HS0_5 HS1_5 HS2_5 hb6 HB5 HZ5
      have k00 := HS0_6.out.cell 0
      have k01 := HS0_6.out.cell 1
      have k02 := HS0_6.out.cell 2
      have k10 := HS1_6.out.cell 0
      have k11 := HS1_6.out.cell 1
      have k12 := HS1_6.out.cell 2
      have k20 := HS2_6.out.cell 0
      have k21 := HS2_6.out.cell 1
      have k22 := HS2_6.out.cell 2
      go_wp2_with fail
      · exfalso
        have hk := Gx.out
        rw [show kcmp a b = 0 from kcmp_zero.2 (CV.ext' (by assumption) (by assumption) (bytes_ext (by rw [← ByteArray.toList_eq, ← ByteArray.toList_eq]; assumption)))] at hk
        omega
      all_goals
        have hC6 := C6.out
        try rw [show a.null = b.null by assumption] at hC6
        try rw [show a.n = b.n by assumption] at hC6
        refine (hC6 _).mono ?_
        rintro e w7 ⟨rfl, hb7⟩
        go_wp2
        go_ret
        exact ⟨rfl, below_then HB6.out hb7⟩
    · obtain rfl : y = 0 := by omega
      have hab : a = b := kcmp_zero.1 Gx.out.symm
      subst hab
      clear g2 g3 g4 g5
      have k00 := HS0.out.cell 0
      have k01 := HS0.out.cell 1
      have k02 := HS0.out.cell 2
      have k10 := HS1.out.cell 0
      have k11 := HS1.out.cell 1
      have k12 := HS1.out.cell 2
      have k20 := HS2.out.cell 0
      have k21 := HS2.out.cell 1
      have k22 := HS2.out.cell 2
      go_wp2_with fail
      refine (C1.out _).mono ?_
      rintro e w2 ⟨rfl, hb2⟩
      clear k00 k01 k02 k10 k11 k12 k20 k21 k22
      have HS0_2 := Lib.hid (HS0.out.below hb2 (by have := HZ1.out; omega))
      have HS1_2 := Lib.hid (HS1.out.below hb2 (by have := HZ1.out; omega))
      have HS2_2 := Lib.hid (HS2.out.below hb2 (by have := HZ1.out; omega))
      have HB2 := Lib.hid (below_then HB1.out hb2)
      have HZ2 := Lib.hid (Nat.le_trans HZ1.out hb2.size)
      clear HS0 HS1 HS2 hb2 HB1 HZ1
      have k00 := HS0_2.out.cell 0
      have k01 := HS0_2.out.cell 1
      have k02 := HS0_2.out.cell 2
      have k10 := HS1_2.out.cell 0
      have k11 := HS1_2.out.cell 1
      have k12 := HS1_2.out.cell 2
      have k20 := HS2_2.out.cell 0
      have k21 := HS2_2.out.cell 1
      have k22 := HS2_2.out.cell 2
      go_wp2_with fail
      refine (C2.out _).mono ?_
      rintro e w3 ⟨rfl, hb3⟩
      clear k00 k01 k02 k10 k11 k12 k20 k21 k22
      have HS0_3 := Lib.hid (HS0_2.out.below hb3 (by have := HZ2.out; omega))
      have HS1_3 := Lib.hid (HS1_2.out.below hb3 (by have := HZ2.out; omega))
      have HS2_3 := Lib.hid (HS2_2.out.below hb3 (by have := HZ2.out; omega))
      have HB3 := Lib.hid (below_then HB2.out hb3)
      have HZ3 := Lib.hid (Nat.le_trans HZ2.out hb3.size)
      clear HS0_2 HS1_2 HS2_2 hb3 HB2 HZ2
      have k00 := HS0_3.out.cell 0
      have k01 := HS0_3.out.cell 1
      have k02 := HS0_3.out.cell 2
      have k10 := HS1_3.out.cell 0
      have k11 := HS1_3.out.cell 1
      have k12 := HS1_3.out.cell 2
      have k20 := HS2_3.out.cell 0
      have k21 := HS2_3.out.cell 1
      have k22 := HS2_3.out.cell 2
      go_wp2_with fail
      refine (C1.out _).mono ?_
      rintro e w4 ⟨rfl, hb4⟩
      clear k00 k01 k02 k10 k11 k12 k20 k21 k22
      have HS0_4 := Lib.hid (HS0_3.out.below hb4 (by have := HZ3.out; omega))
      have HS1_4 := Lib.hid (HS1_3.out.below hb4 (by have := HZ3.out; omega))
      have HS2_4 := Lib.hid (HS2_3.out.below hb4 (by have := HZ3.out; omega))
      have HB4 := Lib.hid (below_then HB3.out hb4)
      have HZ4 := Lib.hid (Nat.le_trans HZ3.out hb4.size)
      clear HS0_3 HS1_3 HS2_3 hb4 HB3 HZ3
      have k00 := HS0_4.out.cell 0
      have k01 := HS0_4.out.cell 1
      have k02 := HS0_4.out.cell 2
      have k10 := HS1_4.out.cell 0
      have k11 := HS1_4.out.cell 1
      have k12 := HS1_4.out.cell 2
      have k20 := HS2_4.out.cell 0
      have k21 := HS2_4.out.cell 1
      have k22 := HS2_4.out.cell 2
      go_wp2_with fail
      refine (C3.out _).mono ?_
      rintro e w5 ⟨rfl, hb5⟩
      clear k00 k01 k02 k10 k11 k12 k20 k21 k22
      have HS0_5 := Lib.hid (HS0_4.out.below hb5 (by have := HZ4.out; omega))
      have HS1_5 := Lib.hid (HS1_4.out.below hb5 (by have := HZ4.out; omega))
      have HS2_5 := Lib.hid (HS2_4.out.below hb5 (by have := HZ4.out; omega))
      have HB5 := Lib.hid (below_then HB4.out hb5)
      have HZ5 := Lib.hid (Nat.le_trans HZ4.out hb5.size)
      clear HS0_4 HS1_4 HS2_4 hb5 HB4 HZ4
      have k00 := HS0_5.out.cell 0
      have k01 := HS0_5.out.cell 1
      have k02 := HS0_5.out.cell 2
      have k10 := HS1_5.out.cell 0
      have k11 := HS1_5.out.cell 1
      have k12 := HS1_5.out.cell 2
      have k20 := HS2_5.out.cell 0
      have k21 := HS2_5.out.cell 1
      have k22 := HS2_5.out.cell 2
      go_wp2_with fail
      refine (C5.out _).mono ?_
      rintro e w6 ⟨rfl, hb6⟩
      clear k00 k01 k02 k10 k11 k12 k20 k21 k22
      have HS0_6 := Lib.hid (HS0_5.out.below hb6 (by have := HZ5.out; omega))
      have HS1_6 := Lib.hid (HS1_5.out.below hb6 (by have := HZ5.out; omega))
      have HS2_6 := Lib.hid (HS2_5.out.below hb6 (by have := HZ5.out; omega))
      have HB6 := Lib.hid (below_then HB5.out hb6)
      have HZ6 := Lib.hid (Nat.le_trans HZ5.out hb6.size)
      clear HS0_5 HS1_5 HS2_5 hb6 HB5 HZ5
      have k00 := HS0_6.out.cell 0
      have k01 := HS0_6.out.cell 1
      have k02 := HS0_6.out.cell 2
      have k10 := HS1_6.out.cell 0
      have k11 := HS1_6.out.cell 1
      have k12 := HS1_6.out.cell 2
      have k20 := HS2_6.out.cell 0
      have k21 := HS2_6.out.cell 1
      have k22 := HS2_6.out.cell 2
      go_wp2_with fail
      refine (C6.out _).mono ?_
      rintro e w7 ⟨rfl, hb7⟩
      go_wp2
      go_ret
      exact ⟨rfl, below_then HB6.out hb7⟩
    · obtain rfl : y = -1 := by omega
      clear g2 g3 g4 g5
      have k00 := HS0.out.cell 0
      have k01 := HS0.out.cell 1
      have k02 := HS0.out.cell 2
      have k10 := HS1.out.cell 0
      have k11 := HS1.out.cell 1
      have k12 := HS1.out.cell 2
      have k20 := HS2.out.cell 0
      have k21 := HS2.out.cell 1
      have k22 := HS2.out.cell 2
      go_wp2_with fail
      refine (C1.out _).mono ?_
      rintro e w2 ⟨rfl, hb2⟩
      clear k00 k01 k02 k10 k11 k12 k20 k21 k22
      have HS0_2 := Lib.hid (HS0.out.below hb2 (by have := HZ1.out; omega))
      have HS1_2 := Lib.hid (HS1.out.below hb2 (by have := HZ1.out; omega))
      have HS2_2 := Lib.hid (HS2.out.below hb2 (by have := HZ1.out; omega))
      have HB2 := Lib.hid (below_then HB1.out hb2)
      have HZ2 := Lib.hid (Nat.le_trans HZ1.out hb2.size)
      clear HS0 HS1 HS2 hb2 HB1 HZ1
      have k00 := HS0_2.out.cell 0
      have k01 := HS0_2.out.cell 1
      have k02 := HS0_2.out.cell 2
      have k10 := HS1_2.out.cell 0
      have k11 := HS1_2.out.cell 1
      have k12 := HS1_2.out.cell 2
      have k20 := HS2_2.out.cell 0
      have k21 := HS2_2.out.cell 1
      have k22 := HS2_2.out.cell 2
      go_wp2_with fail
      refine (C2.out _).mono ?_
      rintro e w3 ⟨rfl, hb3⟩
      clear k00 k01 k02 k10 k11 k12 k20 k21 k22
      have HS0_3 := Lib.hid (HS0_2.out.below hb3 (by have := HZ2.out; omega))
      have HS1_3 := Lib.hid (HS1_2.out.below hb3 (by have := HZ2.out; omega))
      have HS2_3 := Lib.hid (HS2_2.out.below hb3 (by have := HZ2.out; omega))
      have HB3 := Lib.hid (below_then HB2.out hb3)
      have HZ3 := Lib.hid (Nat.le_trans HZ2.out hb3.size)
      clear HS0_2 HS1_2 HS2_2 hb3 HB2 HZ2
      have k00 := HS0_3.out.cell 0
      have k01 := HS0_3.out.cell 1
      have k02 := HS0_3.out.cell 2
      have k10 := HS1_3.out.cell 0
      have k11 := HS1_3.out.cell 1
      have k12 := HS1_3.out.cell 2
      have k20 := HS2_3.out.cell 0
      have k21 := HS2_3.out.cell 1
      have k22 := HS2_3.out.cell 2
      go_wp2_with fail
      refine (C1.out _).mono ?_
      rintro e w4 ⟨rfl, hb4⟩
      clear k00 k01 k02 k10 k11 k12 k20 k21 k22
      have HS0_4 := Lib.hid (HS0_3.out.below hb4 (by have := HZ3.out; omega))
      have HS1_4 := Lib.hid (HS1_3.out.below hb4 (by have := HZ3.out; omega))
      have HS2_4 := Lib.hid (HS2_3.out.below hb4 (by have := HZ3.out; omega))
      have HB4 := Lib.hid (below_then HB3.out hb4)
      have HZ4 := Lib.hid (Nat.le_trans HZ3.out hb4.size)
      clear HS0_3 HS1_3 HS2_3 hb4 HB3 HZ3
      have k00 := HS0_4.out.cell 0
      have k01 := HS0_4.out.cell 1
      have k02 := HS0_4.out.cell 2
      have k10 := HS1_4.out.cell 0
      have k11 := HS1_4.out.cell 1
      have k12 := HS1_4.out.cell 2
      have k20 := HS2_4.out.cell 0
      have k21 := HS2_4.out.cell 1
      have k22 := HS2_4.out.cell 2
      go_wp2_with fail
      refine (C5.out _).mono ?_
      rintro e w5 ⟨rfl, hb5⟩
      clear k00 k01 k02 k10 k11 k12 k20 k21 k22
      have HS0_5 := Lib.hid (HS0_4.out.below hb5 (by have := HZ4.out; omega))
      have HS1_5 := Lib.hid (HS1_4.out.below hb5 (by have := HZ4.out; omega))
      have HS2_5 := Lib.hid (HS2_4.out.below hb5 (by have := HZ4.out; omega))
      have HB5 := Lib.hid (below_then HB4.out hb5)
      have HZ5 := Lib.hid (Nat.le_trans HZ4.out hb5.size)
      clear HS0_4 HS1_4 HS2_4 hb5 HB4 HZ4
      have k00 := HS0_5.out.cell 0
      have k01 := HS0_5.out.cell 1
      have k02 := HS0_5.out.cell 2
      have k10 := HS1_5.out.cell 0
      have k11 := HS1_5.out.cell 1
      have k12 := HS1_5.out.cell 2
      have k20 := HS2_5.out.cell 0
      have k21 := HS2_5.out.cell 1
      have k22 := HS2_5.out.cell 2
      go_wp2_with fail
      · exfalso
        have hk := Gx.out
        rw [show kcmp a b = 0 from kcmp_zero.2 (CV.ext' (by assumption) (by assumption) (bytes_ext (by rw [← ByteArray.toList_eq, ← ByteArray.toList_eq]; assumption)))] at hk
        omega
      all_goals
        have hC6 := C6.out
        try rw [show a.null = b.null by assumption] at hC6
        try rw [show a.n = b.n by assumption] at hC6
        refine (hC6 _).mono ?_
        rintro e w6 ⟨rfl, hb6⟩
        go_wp2
        go_ret
        exact ⟨rfl, below_then HB5.out hb6⟩
  · have d3 : decide (0 < z) = false := decide_eq_false g5
    rcases g1 with rfl | rfl | rfl
    · obtain rfl : y = 1 := by omega
      have d4 : decide (u ≤ 0) = true := decide_eq_true (g3 (by omega) (by omega))
      clear g2 g3 g4 g5
      have k00 := HS0.out.cell 0
      have k01 := HS0.out.cell 1
      have k02 := HS0.out.cell 2
      have k10 := HS1.out.cell 0
      have k11 := HS1.out.cell 1
      have k12 := HS1.out.cell 2
      have k20 := HS2.out.cell 0
      have k21 := HS2.out.cell 1
      have k22 := HS2.out.cell 2
      go_wp2_with fail
      refine (C1.out _).mono ?_
      rintro e w2 ⟨rfl, hb2⟩
      clear k00 k01 k02 k10 k11 k12 k20 k21 k22
      have HS0_2 := Lib.hid (HS0.out.below hb2 (by have := HZ1.out; omega))
      have HS1_2 := Lib.hid (HS1.out.below hb2 (by have := HZ1.out; omega))
      have HS2_2 := Lib.hid (HS2.out.below hb2 (by have := HZ1.out; omega))
      have HB2 := Lib.hid (below_then HB1.out hb2)
      have HZ2 := Lib.hid (Nat.le_trans HZ1.out hb2.size)
      clear HS0 HS1 HS2 hb2 HB1 HZ1
      have k00 := HS0_2.out.cell 0
      have k01 := HS0_2.out.cell 1
      have k02 := HS0_2.out.cell 2
      have k10 := HS1_2.out.cell 0
      have k11 := HS1_2.out.cell 1
      have k12 := HS1_2.out.cell 2
      have k20 := HS2_2.out.cell 0
      have k21 := HS2_2.out.cell 1
      have k22 := HS2_2.out.cell 2
      go_wp2_with fail
      refine (C2.out _).mono ?_
      rintro e w3 ⟨rfl, hb3⟩
      clear k00 k01 k02 k10 k11 k12 k20 k21 k22
      have HS0_3 := Lib.hid (HS0_2.out.below hb3 (by have := HZ2.out; omega))
      have HS1_3 := Lib.hid (HS1_2.out.below hb3 (by have := HZ2.out; omega))
      have HS2_3 := Lib.hid (HS2_2.out.below hb3 (by have := HZ2.out; omega))
      have HB3 := Lib.hid (below_then HB2.out hb3)
      have HZ3 := Lib.hid (Nat.le_trans HZ2.out hb3.size)
      clear HS0_2 HS1_2 HS2_2 hb3 HB2 HZ2
      have k00 := HS0_3.out.cell 0
      have k01 := HS0_3.out.cell 1
      have k02 := HS0_3.out.cell 2
      have k10 := HS1_3.out.cell 0
      have k11 := HS1_3.out.cell 1
      have k12 := HS1_3.out.cell 2
      have k20 := HS2_3.out.cell 0
      have k21 := HS2_3.out.cell 1
      have k22 := HS2_3.out.cell 2
      go_wp2_with fail
      refine (C1.out _).mono ?_
      rintro e w4 ⟨rfl, hb4⟩
      clear k00 k01 k02 k10 k11 k12 k20 k21 k22
      have HS0_4 := Lib.hid (HS0_3.out.below hb4 (by have := HZ3.out; omega))
      have HS1_4 := Lib.hid (HS1_3.out.below hb4 (by have := HZ3.out; omega))
      have HS2_4 := Lib.hid (HS2_3.out.below hb4 (by have := HZ3.out; omega))
      have HB4 := Lib.hid (below_then HB3.out hb4)
      have HZ4 := Lib.hid (Nat.le_trans HZ3.out hb4.size)
      clear HS0_3 HS1_3 HS2_3 hb4 HB3 HZ3
      have k00 := HS0_4.out.cell 0
      have k01 := HS0_4.out.cell 1
      have k02 := HS0_4.out.cell 2
      have k10 := HS1_4.out.cell 0
      have k11 := HS1_4.out.cell 1
      have k12 := HS1_4.out.cell 2
      have k20 := HS2_4.out.cell 0
      have k21 := HS2_4.out.cell 1
      have k22 := HS2_4.out.cell 2
      go_wp2_with fail
      refine (C3.out _).mono ?_
      rintro e w5 ⟨rfl, hb5⟩
      clear k00 k01 k02 k10 k11 k12 k20 k21 k22
      have HS0_5 := Lib.hid (HS0_4.out.below hb5 (by have := HZ4.out; omega))
      have HS1_5 := Lib.hid (HS1_4.out.below hb5 (by have := HZ4.out; omega))
      have HS2_5 := Lib.hid (HS2_4.out.below hb5 (by have := HZ4.out; omega))
      have HB5 := Lib.hid (below_then HB4.out hb5)
      have HZ5 := Lib.hid (Nat.le_trans HZ4.out hb5.size)
      clear HS0_4 HS1_4 HS2_4 hb5 HB4 HZ4
      have k00 := HS0_5.out.cell 0
      have k01 := HS0_5.out.cell 1
      have k02 := HS0_5.out.cell 2
      have k10 := HS1_5.out.cell 0
      have k11 := HS1_5.out.cell 1
      have k12 := HS1_5.out.cell 2
      have k20 := HS2_5.out.cell 0
      have k21 := HS2_5.out.cell 1
      have k22 := HS2_5.out.cell 2
      go_wp2_with fail
      refine (C4.out _).mono ?_
      rintro e w6 ⟨rfl, hb6⟩
      clear k00 k01 k02 k10 k11 k12 k20 k21 k22
      have HS0_6 := Lib.hid (HS0_5.out.below hb6 (by have := HZ5.out; omega))
      have HS1_6 := Lib.hid (HS1_5.out.below hb6 (by have := HZ5.out; omega))
      have HS2_6 := Lib.hid (HS2_5.out.below hb6 (by have := HZ5.out; omega))
      have HB6 := Lib.hid (below_then HB5.out hb6)
      have HZ6 := Lib.hid (Nat.le_trans HZ5.out hb6.size)
      clear HS0_5 HS1_5 HS2_5 hb6 HB5 HZ5
      have k00 := HS0_6.out.cell 0
      have k01 := HS0_6.out.cell 1
      have k02 := HS0_6.out.cell 2
      have k10 := HS1_6.out.cell 0
      have k11 := HS1_6.out.cell 1
      have k12 := HS1_6.out.cell 2
      have k20 := HS2_6.out.cell 0
      have k21 := HS2_6.out.cell 1
      have k22 := HS2_6.out.cell 2
      go_wp2_with fail
      refine (C5.out _).mono ?_
      rintro e w7 ⟨rfl, hb7⟩
      clear k00 k01 k02 k10 k11 k12 k20 k21 k22
      have HS0_7 := Lib.hid (HS0_6.out.below hb7 (by have := HZ6.out; omega))
      have HS1_7 := Lib.hid (HS1_6.out.below hb7 (by have := HZ6.out; omega))
      have HS2_7 := Lib.hid (HS2_6.out.below hb7 (by have := HZ6.out; omega))
      have HB7 := Lib.hid (below_then HB6.out hb7)
      have HZ7 := Lib.hid (Nat.le_trans HZ6.out hb7.size)
      clear HS0_6 HS1_6 HS2_6 hb7 HB6 HZ6
      have k00 := HS0_7.out.cell 0
      have k01 := HS0_7.out.cell 1
      have k02 := HS0_7.out.cell 2
      have k10 := HS1_7.out.cell 0
      have k11 := HS1_7.out.cell 1
      have k12 := HS1_7.out.cell 2
      have k20 := HS2_7.out.cell 0
      have k21 := HS2_7.out.cell 1
      have k22 := HS2_7.out.cell 2
      go_wp2_with fail
      · exfalso
        have hk := Gx.out
        rw [show kcmp a b = 0 from kcmp_zero.2 (CV.ext' (by assumption) (by assumption) (bytes_ext (by rw [← ByteArray.toList_eq, ← ByteArray.toList_eq]; assumption)))] at hk
        omega
      all_goals
        have hC6 := C6.out
        try rw [show a.null = b.null by assumption] at hC6
        try rw [show a.n = b.n by assumption] at hC6
        refine (hC6 _).mono ?_
        rintro e w8 ⟨rfl, hb8⟩
        go_wp2
        go_ret
        exact ⟨rfl, below_then HB7.out hb8⟩
    · obtain rfl : y = 0 := by omega
      have hab : a = b := kcmp_zero.1 Gx.out.symm
      subst hab
      have d4 : decide (u ≤ 0) = true := decide_eq_true (g3 (by omega) (by omega))
      clear g2 g3 g4 g5
      have k00 := HS0.out.cell 0
      have k01 := HS0.out.cell 1
      have k02 := HS0.out.cell 2
      have k10 := HS1.out.cell 0
      have k11 := HS1.out.cell 1
      have k12 := HS1.out.cell 2
      have k20 := HS2.out.cell 0
      have k21 := HS2.out.cell 1
      have k22 := HS2.out.cell 2
      go_wp2_with fail
      refine (C1.out _).mono ?_
      rintro e w2 ⟨rfl, hb2⟩
      clear k00 k01 k02 k10 k11 k12 k20 k21 k22
      have HS0_2 := Lib.hid (HS0.out.below hb2 (by have := HZ1.out; omega))
      have HS1_2 := Lib.hid (HS1.out.below hb2 (by have := HZ1.out; omega))
      have HS2_2 := Lib.hid (HS2.out.below hb2 (by have := HZ1.out; omega))
      have HB2 := Lib.hid (below_then HB1.out hb2)
      have HZ2 := Lib.hid (Nat.le_trans HZ1.out hb2.size)
      clear HS0 HS1 HS2 hb2 HB1 HZ1
      have k00 := HS0_2.out.cell 0
      have k01 := HS0_2.out.cell 1
      have k02 := HS0_2.out.cell 2
      have k10 := HS1_2.out.cell 0
      have k11 := HS1_2.out.cell 1
      have k12 := HS1_2.out.cell 2
      have k20 := HS2_2.out.cell 0
      have k21 := HS2_2.out.cell 1
      have k22 := HS2_2.out.cell 2
      go_wp2_with fail
      refine (C2.out _).mono ?_
      rintro e w3 ⟨rfl, hb3⟩
      clear k00 k01 k02 k10 k11 k12 k20 k21 k22
      have HS0_3 := Lib.hid (HS0_2.out.below hb3 (by have := HZ2.out; omega))
      have HS1_3 := Lib.hid (HS1_2.out.below hb3 (by have := HZ2.out; omega))
      have HS2_3 := Lib.hid (HS2_2.out.below hb3 (by have := HZ2.out; omega))
      have HB3 := Lib.hid (below_then HB2.out hb3)
      have HZ3 := Lib.hid (Nat.le_trans HZ2.out hb3.size)
      clear HS0_2 HS1_2 HS2_2 hb3 HB2 HZ2
      have k00 := HS0_3.out.cell 0
      have k01 := HS0_3.out.cell 1
      have k02 := HS0_3.out.cell 2
      have k10 := HS1_3.out.cell 0
      have k11 := HS1_3.out.cell 1
      have k12 := HS1_3.out.cell 2
      have k20 := HS2_3.out.cell 0
      have k21 := HS2_3.out.cell 1
      have k22 := HS2_3.out.cell 2
      go_wp2_with fail
      refine (C1.out _).mono ?_
      rintro e w4 ⟨rfl, hb4⟩
      clear k00 k01 k02 k10 k11 k12 k20 k21 k22
      have HS0_4 := Lib.hid (HS0_3.out.below hb4 (by have := HZ3.out; omega))
      have HS1_4 := Lib.hid (HS1_3.out.below hb4 (by have := HZ3.out; omega))
      have HS2_4 := Lib.hid (HS2_3.out.below hb4 (by have := HZ3.out; omega))
      have HB4 := Lib.hid (below_then HB3.out hb4)
      have HZ4 := Lib.hid (Nat.le_trans HZ3.out hb4.size)
      clear HS0_3 HS1_3 HS2_3 hb4 HB3 HZ3
      have k00 := HS0_4.out.cell 0
      have k01 := HS0_4.out.cell 1
      have k02 := HS0_4.out.cell 2
      have k10 := HS1_4.out.cell 0
      have k11 := HS1_4.out.cell 1
      have k12 := HS1_4.out.cell 2
      have k20 := HS2_4.out.cell 0
      have k21 := HS2_4.out.cell 1
      have k22 := HS2_4.out.cell 2
      go_wp2_with fail
      refine (C3.out _).mono ?_
      rintro e w5 ⟨rfl, hb5⟩
      clear k00 k01 k02 k10 k11 k12 k20 k21 k22
      have HS0_5 := Lib.hid (HS0_4.out.below hb5 (by have := HZ4.out; omega))
      have HS1_5 := Lib.hid (HS1_4.out.below hb5 (by have := HZ4.out; omega))
      have HS2_5 := Lib.hid (HS2_4.out.below hb5 (by have := HZ4.out; omega))
      have HB5 := Lib.hid (below_then HB4.out hb5)
      have HZ5 := Lib.hid (Nat.le_trans HZ4.out hb5.size)
      clear HS0_4 HS1_4 HS2_4 hb5 HB4 HZ4
      have k00 := HS0_5.out.cell 0
      have k01 := HS0_5.out.cell 1
      have k02 := HS0_5.out.cell 2
      have k10 := HS1_5.out.cell 0
      have k11 := HS1_5.out.cell 1
      have k12 := HS1_5.out.cell 2
      have k20 := HS2_5.out.cell 0
      have k21 := HS2_5.out.cell 1
      have k22 := HS2_5.out.cell 2
      go_wp2_with fail
      refine (C4.out _).mono ?_
      rintro e w6 ⟨rfl, hb6⟩
      clear k00 k01 k02 k10 k11 k12 k20 k21 k22
      have HS0_6 := Lib.hid (HS0_5.out.below hb6 (by have := HZ5.out; omega))
      have HS1_6 := Lib.hid (HS1_5.out.below hb6 (by have := HZ5.out; omega))
      have HS2_6 := Lib.hid (HS2_5.out.below hb6 (by have := HZ5.out; omega))
      have HB6 := Lib.hid (below_then HB5.out hb6)
      have HZ6 := Lib.hid (Nat.le_trans HZ5.out hb6.size)
      clear HS0_5 HS1_5 HS2_5 hb6 HB5 HZ5
      have k00 := HS0_6.out.cell 0
      have k01 := HS0_6.out.cell 1
      have k02 := HS0_6.out.cell 2
      have k10 := HS1_6.out.cell 0
      have k11 := HS1_6.out.cell 1
      have k12 := HS1_6.out.cell 2
      have k20 := HS2_6.out.cell 0
      have k21 := HS2_6.out.cell 1
      have k22 := HS2_6.out.cell 2
      go_wp2_with fail
      refine (C5.out _).mono ?_
      rintro e w7 ⟨rfl, hb7⟩
      clear k00 k01 k02 k10 k11 k12 k20 k21 k22
      have HS0_7 := Lib.hid (HS0_6.out.below hb7 (by have := HZ6.out; omega))
      have HS1_7 := Lib.hid (HS1_6.out.below hb7 (by have := HZ6.out; omega))
      have HS2_7 := Lib.hid (HS2_6.out.below hb7 (by have := HZ6.out; omega))
      have HB7 := Lib.hid (below_then HB6.out hb7)
      have HZ7 := Lib.hid (Nat.le_trans HZ6.out hb7.size)
      clear HS0_6 HS1_6 HS2_6 hb7 HB6 HZ6
      have k00 := HS0_7.out.cell 0
      have k01 := HS0_7.out.cell 1
      have k02 := HS0_7.out.cell 2
      have k10 := HS1_7.out.cell 0
      have k11 := HS1_7.out.cell 1
      have k12 := HS1_7.out.cell 2
      have k20 := HS2_7.out.cell 0
      have k21 := HS2_7.out.cell 1
      have k22 := HS2_7.out.cell 2
      go_wp2_with fail
      refine (C6.out _).mono ?_
      rintro e w8 ⟨rfl, hb8⟩
      go_wp2
      go_ret
      exact ⟨rfl, below_then HB7.out hb8⟩
    · obtain rfl : y = -1 := by omega
      clear g2 g3 g4 g5
      have k00 := HS0.out.cell 0
      have k01 := HS0.out.cell 1
      have k02 := HS0.out.cell 2
      have k10 := HS1.out.cell 0
      have k11 := HS1.out.cell 1
      have k12 := HS1.out.cell 2
      have k20 := HS2.out.cell 0
      have k21 := HS2.out.cell 1
      have k22 := HS2.out.cell 2
      go_wp2_with fail
      refine (C1.out _).mono ?_
      rintro e w2 ⟨rfl, hb2⟩
      clear k00 k01 k02 k10 k11 k12 k20 k21 k22
      have HS0_2 := Lib.hid (HS0.out.below hb2 (by have := HZ1.out; omega))
      have HS1_2 := Lib.hid (HS1.out.below hb2 (by have := HZ1.out; omega))
      have HS2_2 := Lib.hid (HS2.out.below hb2 (by have := HZ1.out; omega))
      have HB2 := Lib.hid (below_then HB1.out hb2)
      have HZ2 := Lib.hid (Nat.le_trans HZ1.out hb2.size)
      clear HS0 HS1 HS2 hb2 HB1 HZ1
      have k00 := HS0_2.out.cell 0
      have k01 := HS0_2.out.cell 1
      have k02 := HS0_2.out.cell 2
      have k10 := HS1_2.out.cell 0
      have k11 := HS1_2.out.cell 1
      have k12 := HS1_2.out.cell 2
      have k20 := HS2_2.out.cell 0
      have k21 := HS2_2.out.cell 1
      have k22 := HS2_2.out.cell 2
      go_wp2_with fail
      refine (C2.out _).mono ?_
      rintro e w3 ⟨rfl, hb3⟩
      clear k00 k01 k02 k10 k11 k12 k20 k21 k22
      have HS0_3 := Lib.hid (HS0_2.out.below hb3 (by have := HZ2.out; omega))
      have HS1_3 := Lib.hid (HS1_2.out.below hb3 (by have := HZ2.out; omega))
      have HS2_3 := Lib.hid (HS2_2.out.below hb3 (by have := HZ2.out; omega))
      have HB3 := Lib.hid (below_then HB2.out hb3)
      have HZ3 := Lib.hid (Nat.le_trans HZ2.out hb3.size)
      clear HS0_2 HS1_2 HS2_2 hb3 HB2 HZ2
      have k00 := HS0_3.out.cell 0
      have k01 := HS0_3.out.cell 1
      have k02 := HS0_3.out.cell 2
      have k10 := HS1_3.out.cell 0
      have k11 := HS1_3.out.cell 1
      have k12 := HS1_3.out.cell 2
      have k20 := HS2_3.out.cell 0
      have k21 := HS2_3.out.cell 1
      have k22 := HS2_3.out.cell 2
      go_wp2_with fail
      refine (C1.out _).mono ?_
      rintro e w4 ⟨rfl, hb4⟩
      clear k00 k01 k02 k10 k11 k12 k20 k21 k22
      have HS0_4 := Lib.hid (HS0_3.out.below hb4 (by have := HZ3.out; omega))
      have HS1_4 := Lib.hid (HS1_3.out.below hb4 (by have := HZ3.out; omega))
      have HS2_4 := Lib.hid (HS2_3.out.below hb4 (by have := HZ3.out; omega))
      have HB4 := Lib.hid (below_then HB3.out hb4)
      have HZ4 := Lib.hid (Nat.le_trans HZ3.out hb4.size)
      clear HS0_3 HS1_3 HS2_3 hb4 HB3 HZ3
      have k00 := HS0_4.out.cell 0
      have k01 := HS0_4.out.cell 1
      have k02 := HS0_4.out.cell 2
      have k10 := HS1_4.out.cell 0
      have k11 := HS1_4.out.cell 1
      have k12 := HS1_4.out.cell 2
      have k20 := HS2_4.out.cell 0
      have k21 := HS2_4.out.cell 1
      have k22 := HS2_4.out.cell 2
      go_wp2_with fail
      refine (C5.out _).mono ?_
      rintro e w5 ⟨rfl, hb5⟩
      clear k00 k01 k02 k10 k11 k12 k20 k21 k22
      have HS0_5 := Lib.hid (HS0_4.out.below hb5 (by have := HZ4.out; omega))
      have HS1_5 := Lib.hid (HS1_4.out.below hb5 (by have := HZ4.out; omega))
      have HS2_5 := Lib.hid (HS2_4.out.below hb5 (by have := HZ4.out; omega))
      have HB5 := Lib.hid (below_then HB4.out hb5)
      have HZ5 := Lib.hid (Nat.le_trans HZ4.out hb5.size)
      clear HS0_4 HS1_4 HS2_4 hb5 HB4 HZ4
      have k00 := HS0_5.out.cell 0
      have k01 := HS0_5.out.cell 1
      have k02 := HS0_5.out.cell 2
      have k10 := HS1_5.out.cell 0
      have k11 := HS1_5.out.cell 1
      have k12 := HS1_5.out.cell 2
      have k20 := HS2_5.out.cell 0
      have k21 := HS2_5.out.cell 1
      have k22 := HS2_5.out.cell 2
      go_wp2_with fail
      · exfalso
        have hk := Gx.out
        rw [show kcmp a b = 0 from kcmp_zero.2 (CV.ext' (by assumption) (by assumption) (bytes_ext (by rw [← ByteArray.toList_eq, ← ByteArray.toList_eq]; assumption)))] at hk
        omega
      all_goals
        have hC6 := C6.out
        try rw [show a.null = b.null by assumption] at hC6
        try rw [show a.n = b.n by assumption] at hC6
        refine (hC6 _).mono ?_
        rintro e w6 ⟨rfl, hb6⟩
        go_wp2
        go_ret
        exact ⟨rfl, below_then HB5.out hb6⟩

set_option maxRecDepth 100000 in
theorem ValueTotal_lifted (os : Os) (started : os.Started) (H : Type) (enc : TypeId × Value → H) :
    ReturnsInHanded {} Try.checked os 4 .any (Rows.valueTotalSpec.pre6 enc Try.prog Try.f4 Rows.valueTotalRow.domain false) (Rows.valueTotalSpec.post enc Try.prog Try.f4 false true false false) := by
  refine returnsInHanded_of_change (C := Try.checked) own started (by kernel_rfl) Try.func4
    (ChangeSpec.witness6 (enc := enc) (C := Try.checked) false ⟨#[], #[.agg #[.bool false, .int .i64 0, .string ⟨#[]⟩], .agg #[.bool false, .int .i64 0, .string ⟨#[]⟩], .agg #[.bool false, .int .i64 0, .string ⟨#[]⟩]], []⟩ 8 (by kernel_rfl) (by kernel_rfl) (by kernel_rfl) (by kernel_rfl)) ?_
  intro W base args ds gs before hval0 hW hcnd _
  have hval : ∀ (j : Nat) t v, Try.f4.params[j]? = some t → args[j]? = some v → Value.okWide Try.prog W .any base t v := hval0
  have hW' := hW
  obtain ⟨p, q, hT0, hV, rfl, hfz, hnd⟩ := hW
  have hA : DataW.TrodAll enc Try.prog W 0 (fun _ => true) true Try.f4.params.toList args.toList ds p := hT0
  rw [Try.params4] at hA hval
  obtain ⟨v0, vs0, d0, ds0, p0, q0, hargs, rfl, rfl, h0, r0⟩ := trodAll_cons hA
  obtain ⟨v1, vs1, d1, ds1, p1, q1, rfl, rfl, rfl, h1, r1⟩ := trodAll_cons r0
  obtain ⟨v2, vs2, d2, ds2, p2, q2, rfl, rfl, rfl, h2, r2⟩ := trodAll_cons r1
  obtain ⟨rfl, rfl, rfl⟩ := trodAll_nil r2
  obtain rfl : args = #[v0, v1, v2] := by cases args; simp_all
  obtain ⟨rfl, rfl⟩ := trodVars_none hV
  obtain ⟨c0, rfl, wi0, ws0⟩ := open_val (hval 0 23 v0 rfl rfl) h0
  obtain ⟨c1, rfl, wi1, ws1⟩ := open_val (hval 1 23 v1 rfl rfl) h1
  obtain ⟨c2, rfl, wi2, ws2⟩ := open_val (hval 2 23 v2 rfl rfl) h2
  clear hT0 hval0
  refine (ValueTotal_walk W c0 wi0 ws0 c1 wi1 ws1 c2 wi2 ws2).mono fun e W' ⟨he, hb⟩ => ?_
  subst he
  exact ⟨_, rfl, law_post laidOut Try.underlying4 (by kernel_rfl) (by kernel_rfl) rfl hW' rfl hb⟩

theorem ValueTotal_over : Rows.valueTotalRow.holds Try.pinned (OpenSpec.ofChange Rows.valueTotalSpec) :=
  OpenClaim.holds_of_wide 4 Try.f4 rfl rfl rfl rfl rfl rfl rfl ⟨rfl, rfl, rfl, rfl, rfl⟩ rfl rfl rfl rfl rfl (by kernel_rfl) Try.func4 (by kernel_rfl)
    (of_decide_eq_true (by kernel_rfl)) (by unfold Func.isWrapper; first | (rw [if_pos (by decide +kernel)]; kernel_rfl) | (rw [if_neg (by decide +kernel)]; exact ⟨rfl, rfl⟩))
    (fun os started H enc _ => ValueTotal_lifted os started H enc)

theorem ValueTotal_holds : Rows.ValueTotalSaid := ValueTotal_over
#print axioms ValueTotal_holds

end Go.Proofs.Ytljepanilfbjgaa
