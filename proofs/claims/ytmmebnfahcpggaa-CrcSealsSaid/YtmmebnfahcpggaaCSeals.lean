/- The statement CrcSeals: for any two rows of bytes the law answers true. No condition. -/
import Derived.Test.YtmmebnfahcpggaaCShown
import Derived.Test.YtmmebnfahcpggaaLaw
namespace Go.Proofs.Ytmmebnfahcpggaa
open Go.RowKit Go.ChangeShapes Go.WideShapes Go.ChangeAt

set_option maxHeartbeats 4000000 in
set_option maxRecDepth 100000 in
theorem CrcSeals_walk (w : World) (A0 : Option Addr) (n0 c0 : Nat) (l0 : List UInt8) (hA0 : A0 = none → n0 = 0) (hn0 : l0.length = n0) (hc0 : n0 ≤ c0) (hm0 : c0 ≤ maxLen) (hl0 : Lies w A0 (l0.map bv)) (A1 : Option Addr) (n1 c1 : Nat) (l1 : List UInt8) (hA1 : A1 = none → n1 = 0) (hn1 : l1.length = n1) (hc1 : n1 ≤ c1) (hm1 : c1 ≤ maxLen) (hl1 : Lies w A1 (l1.map bv)) :
    Calls Try.prog 4 #[.slice A0 n0 c0, .slice A1 n1 c1] w fun e w' => e = .returned (.bool true) ∧ Below w.heap.size w w' := by
  have hI0 : IsB l0 (.slice A0 n0 c0) w := ⟨A0, c0, by rw [hn0], fun h => by rw [hn0]; exact hA0 h, by rw [hn0]; exact hc0, hm0, hl0⟩
  obtain ⟨v0, hv0⟩ : ∃ v0, v0 = Value.slice A0 n0 c0 := ⟨_, rfl⟩
  rw [← hv0] at hI0 ⊢
  clear hv0 hA0 hn0 hc0 hm0 hl0
  have hI1 : IsB l1 (.slice A1 n1 c1) w := ⟨A1, c1, by rw [hn1], fun h => by rw [hn1]; exact hA1 h, by rw [hn1]; exact hc1, hm1, hl1⟩
  obtain ⟨v1, hv1⟩ : ∃ v1, v1 = Value.slice A1 n1 c1 := ⟨_, rfl⟩
  rw [← hv1] at hI1 ⊢
  clear hv1 hA1 hn1 hc1 hm1 hl1
  have HI0 := Lib.hid hI0
  have HI1 := Lib.hid hI1
  clear hI0 hI1
  go_enter Try.func4, Try.ntmps4
  go_wp2_with fail
  refine (shown_any _).mono ?_
  rintro e w1 ⟨rfl, hb1⟩
  have HB1 := Lib.hid hb1
  have HJ0 := Lib.hid (HI0.out.below hb1)
  have HJ1 := Lib.hid (HI1.out.below hb1)
  clear hb1
  go_wp2_with fail
  refine (few_is HJ0.out).mono ?_
  rintro e w' ⟨⟨ub, rfl, hu⟩, rfl⟩
  obtain ⟨lb, hl⟩ : ∃ lb, lb = l0.take 400 := ⟨_, rfl⟩
  rw [← hl] at hu
  have HLB : Hid (lb.length ≤ 1000) := Lib.hid (by rw [hl, List.length_take]; omega)
  have HUB1 := Lib.hid hu
  clear hu hl
  go_wp2_with fail
  refine (few_is HJ1.out).mono ?_
  rintro e w' ⟨⟨uc, rfl, hu⟩, rfl⟩
  obtain ⟨lc, hl⟩ : ∃ lc, lc = l1.take 400 := ⟨_, rfl⟩
  rw [← hl] at hu
  have HLC : Hid (lc.length ≤ 1000) := Lib.hid (by rw [hl, List.length_take]; omega)
  have HUC1 := Lib.hid hu
  clear hu hl
  go_wp2_with fail
  refine (new_any _).mono ?_
  rintro e w2 ⟨rfl, hb2⟩
  go_wp2_with (refine wpList_allocArr tabT rfl rfl ?_)
  intro w3 hr3 hb3
  have hb13 := below_then hb2 hb3
  obtain ⟨g, hg⟩ : ∃ g, g = w2.heap.size := ⟨_, rfl⟩
  have hgw : w1.heap.size ≤ g := by rw [hg]; exact hb2.size
  rw [← hg] at hr3 ⊢
  clear hb2 hb3 hg
  go_wp2_with (refine wpList_storeArr tabT rfl _ _ rfl g _ _ ctab rfl rfl hr3 ctab_len (zeroRow_len _ _) ctab_one w1 w1.heap.size hb13 hgw ?_)
  intro w4 hr4 hb4 _
  have HT : Hid (Tabl g w4) := Lib.hid ⟨_, hr4⟩
  have HBn := Lib.hid (below_then HB1.out hb4)
  have HUB4 := Lib.hid (HUB1.out.below hb4)
  have HUC4 := Lib.hid (HUC1.out.below hb4)
  clear hr3 hr4 hb13 hb4 hgw
  obtain ⟨A2, c2, hv2, hA2, hnc2, hcm2, hlies2⟩ := HUC4.out
  obtain ⟨n2, hn2⟩ : ∃ n2, n2 = lc.length := ⟨_, rfl⟩
  rw [← hn2] at hv2 hA2 hnc2
  have hml2 : (lc.map bv).length = n2 := by rw [List.length_map, hn2]
  have hlen2 : n2 ≤ 1000 := by rw [hn2]; exact HLC.out
  have HML2 := Lib.hid hml2
  subst hv2
  clear hcm2 hml2 hn2
  have hown0 : (w4.alloc (.cells #[] 5)).ownsRow w4.heap.size 5 1 (.slice (some ⟨w4.heap.size, 0, none⟩) 0 0) 0 [] := World.ownsRow_made w4 #[] 0 (Nat.le_refl _) (by unfold maxLen; omega) (by simp)
  have hbA : Below w4.heap.size w4 (w4.alloc (.cells #[] 5)) := (Below.refl _ _).alloc (Nat.le_refl _) _
  have hlA := hlies2.below hbA
  have hzz : w4.heap.size ≤ (w4.alloc (.cells #[] 5)).heap.size := by simp
  clear hlies2
  go_wp2_with (at_builtin; refine wpList_join elemB rfl _ _ rfl w4.heap.size _ _ _ _ _ _ (lc.map bv) w4 rfl rfl hA2 HML2.out hlA (bv_one lc) hown0 hbA hzz (by omega) (by omega) ?_)
  intro v5 w5 hown5 hb5 _ _
  have hB5 : IsB lc v5 w5 := isB_own (by simpa using hown5)
  have HO5 := Lib.hid hB5
  have HT5 := Lib.hid (HT.out.below hb5)
  have HUB5 := Lib.hid (HUB4.out.below hb5)
  have HUC5 := Lib.hid (HUC4.out.below hb5)
  have HB5 := Lib.hid (below_then HBn.out hb5)
  clear hown5 hown0 hbA hlA hzz hB5 hb5 hA2 hnc2 hlen2
  generalize Value.slice A2 n2 c2 = uc at *
  go_wp2_with fail
  refine (open_any g lc v5 w5 HT5.out HO5.out (by have := HLC.out; omega)).mono ?_
  rintro e w6 ⟨x6, rfl, hx6, hb6⟩
  have HX6 := Lib.hid hx6
  have HO6 := Lib.hid (HO5.out.below hb6)
  have HT6 := Lib.hid (HT5.out.below hb6)
  have HUB6 := Lib.hid (HUB5.out.below hb6)
  have HUC6 := Lib.hid (HUC5.out.below hb6)
  have HB6 := Lib.hid (below_then HB5.out hb6)
  clear hx6 hb6
  go_wp2_with fail
  refine (ropen_any lc uc w6 HUC6.out (by have := HLC.out; omega)).mono ?_
  rintro e w7 ⟨y7, rfl, hy7, hb7⟩
  have HY := Lib.hid hy7
  have HX := Lib.hid (HX6.out.below hb7)
  have HO := Lib.hid (HO6.out.below hb7)
  have HUB := Lib.hid (HUB6.out.below hb7)
  have HUC := Lib.hid (HUC6.out.below hb7)
  have HB7 := Lib.hid (below_then HB6.out hb7)
  have HT7 := Lib.hid (HT6.out.below hb7)
  clear HT HT5 HT6
  have HT := HT7
  clear hy7 hb7 HT7
  go_wp2
  refine wp_region_list [.is (.bool true), .is (.bool true), .bytes (lb), .bytes (cseal lb), .is (.string ⟨(cseal lb).toArray⟩), .bytes (lb), .bytes (cseal lb), .is (.string ⟨(cseal lb).toArray⟩), .is (.bool true), .is (.bool true), .is (.bool true), .bytes ((copens lc).1), .is (.string ⟨((copens lc).1).toArray⟩), .bytes ((copens lc).1), .is (.string ⟨((copens lc).1).toArray⟩), .is (.bool true), .is (.bool true), .is (.bool true), .is (.int .i64 (copens lc).2), .is (.int .i64 (copens lc).2), .is (.bool true), .is (.bool true), .is (.bool true), .bytes (lc), .is (.string ⟨(lc).toArray⟩), .bytes (lc), .is (.string ⟨(lc).toArray⟩), .is (.bool true), .is (.bool true), .is (.bool true)] [some 31, some 32, some 33, some 34, some 35, some 36, some 37, some 38, some 39, some 40, some 41, some 42, some 43, some 44, some 45, some 46, some 47, some 48, some 49, some 50, some 51, some 52, some 53, some 54, some 55, some 56, some 57, some 58, some 59, some 4] (by kernel_rfl) (by kernel_rfl) (by kernel_rfl) rfl ⟨?_, ?_, ?_, ?_, ?_, ?_, ?_, ?_, ?_, ?_, ?_, ?_, ?_, ?_, ?_, ?_, ?_, ?_, ?_, ?_, ?_, ?_, ?_, ?_, ?_, ?_, ?_, ?_, ?_, ?_, trivial⟩ ?_
  · intro ρ W1 hb1 H
    exact gives_move rfl (H.old 5 _ (by kernel_rfl) rfl) ⟨rfl, Below.refl _ _⟩
  · intro ρ W1 hb1 H
    exact gives_move rfl (H.new 31 0 (by kernel_rfl)) ⟨rfl, Below.refl _ _⟩
  · intro ρ W1 hb1 H d hd
    have hd' : (some 32 : Option Tmp) = some d := hd
    injection hd' with hd'
    subst hd'
    refine ⟨fun _ => ?_, fun hne => absurd (H.new 32 1 (by kernel_rfl)) hne⟩
    exact gives_move rfl (H.old 0 _ (by kernel_rfl) rfl) ⟨HUB.out.below hb1, Below.refl _ _⟩
  · intro ρ W1 hb1 H d hd
    have hd' : (some 32 : Option Tmp) = some d := hd
    injection hd' with hd'
    subst hd'
    refine ⟨fun _ => ?_, fun hne => absurd (H.new 32 1 (by kernel_rfl)) hne⟩
    have e0 : ρ (.tmp 6) = .pointer (some ⟨g, 0, none⟩) := H.old 6 _ (by kernel_rfl) rfl
    have e1 : IsB (lb) (ρ (.tmp 33)) W1 := H.new 33 2 (by kernel_rfl)
    refine gives_call rfl (fun _ _ => by kernel_rfl) (H.func _) (args := #[.pointer (some ⟨g, 0, none⟩), ρ (.tmp 33)]) (by simp [e0]) ?_
    exact (seal_any g _ _ _ (HT.out.below hb1) e1 (by have := HLB.out; omega)).mono fun _ _ h => h.isB
  · intro ρ W1 hb1 H d hd
    have hd' : (some 32 : Option Tmp) = some d := hd
    injection hd' with hd'
    subst hd'
    refine ⟨fun _ => ?_, fun hne => absurd (H.new 32 1 (by kernel_rfl)) hne⟩
    have hB : IsB (cseal lb) (ρ (.tmp 34)) W1 := H.new 34 3 (by kernel_rfl)
    exact gives_convert rfl rfl (hB.text _ _ _ Try.underlying22 Try.underlying5 Try.underlying9) ⟨rfl, Below.refl _ _⟩
  · intro ρ W1 hb1 H d hd
    have hd' : (some 32 : Option Tmp) = some d := hd
    injection hd' with hd'
    subst hd'
    refine ⟨fun _ => ?_, fun hne => absurd (H.new 32 1 (by kernel_rfl)) hne⟩
    exact gives_move rfl (H.old 0 _ (by kernel_rfl) rfl) ⟨HUB.out.below hb1, Below.refl _ _⟩
  · intro ρ W1 hb1 H d hd
    have hd' : (some 32 : Option Tmp) = some d := hd
    injection hd' with hd'
    subst hd'
    refine ⟨fun _ => ?_, fun hne => absurd (H.new 32 1 (by kernel_rfl)) hne⟩
    have e0 : IsB (lb) (ρ (.tmp 36)) W1 := H.new 36 5 (by kernel_rfl)
    refine gives_call rfl (fun _ _ => by kernel_rfl) (H.func _) (args := #[ρ (.tmp 36)]) (by simp []) ?_
    exact (rseal_any _ _ _ e0 (by have := HLB.out; omega)).mono fun _ _ h => h.isB
  · intro ρ W1 hb1 H d hd
    have hd' : (some 32 : Option Tmp) = some d := hd
    injection hd' with hd'
    subst hd'
    refine ⟨fun _ => ?_, fun hne => absurd (H.new 32 1 (by kernel_rfl)) hne⟩
    have hB : IsB (cseal lb) (ρ (.tmp 37)) W1 := H.new 37 6 (by kernel_rfl)
    exact gives_convert rfl rfl (hB.text _ _ _ Try.underlying22 Try.underlying5 Try.underlying9) ⟨rfl, Below.refl _ _⟩
  · intro ρ W1 hb1 H d hd
    have hd' : (some 32 : Option Tmp) = some d := hd
    injection hd' with hd'
    subst hd'
    refine ⟨fun _ => ?_, fun hne => absurd (H.new 32 1 (by kernel_rfl)) hne⟩
    exact gives_texteq (a := cseal lb) (b := cseal lb) rfl (H.new 35 4 (by kernel_rfl)) (H.new 38 7 (by kernel_rfl)) ⟨by simp [facts, Fact.is], Below.refl _ _⟩
  · intro ρ W1 hb1 H
    exact gives_pick_t rfl (H.new 32 1 (by kernel_rfl)) (H.new 39 8 (by kernel_rfl)) ⟨rfl, Below.refl _ _⟩
  · intro ρ W1 hb1 H
    exact gives_move rfl (H.new 40 9 (by kernel_rfl)) ⟨rfl, Below.refl _ _⟩
  · intro ρ W1 hb1 H d hd
    have hd' : (some 41 : Option Tmp) = some d := hd
    injection hd' with hd'
    subst hd'
    refine ⟨fun _ => ?_, fun hne => absurd (H.new 41 10 (by kernel_rfl)) hne⟩
    exact gives_move rfl (H.old 8 _ (by kernel_rfl) rfl) ⟨HX.out.below hb1, Below.refl _ _⟩
  · intro ρ W1 hb1 H d hd
    have hd' : (some 41 : Option Tmp) = some d := hd
    injection hd' with hd'
    subst hd'
    refine ⟨fun _ => ?_, fun hne => absurd (H.new 41 10 (by kernel_rfl)) hne⟩
    have hB : IsB ((copens lc).1) (ρ (.tmp 42)) W1 := H.new 42 11 (by kernel_rfl)
    exact gives_convert rfl rfl (hB.text _ _ _ Try.underlying22 Try.underlying5 Try.underlying9) ⟨rfl, Below.refl _ _⟩
  · intro ρ W1 hb1 H d hd
    have hd' : (some 41 : Option Tmp) = some d := hd
    injection hd' with hd'
    subst hd'
    refine ⟨fun _ => ?_, fun hne => absurd (H.new 41 10 (by kernel_rfl)) hne⟩
    exact gives_move rfl (H.old 10 _ (by kernel_rfl) rfl) ⟨HY.out.below hb1, Below.refl _ _⟩
  · intro ρ W1 hb1 H d hd
    have hd' : (some 41 : Option Tmp) = some d := hd
    injection hd' with hd'
    subst hd'
    refine ⟨fun _ => ?_, fun hne => absurd (H.new 41 10 (by kernel_rfl)) hne⟩
    have hB : IsB ((copens lc).1) (ρ (.tmp 44)) W1 := H.new 44 13 (by kernel_rfl)
    exact gives_convert rfl rfl (hB.text _ _ _ Try.underlying22 Try.underlying5 Try.underlying9) ⟨rfl, Below.refl _ _⟩
  · intro ρ W1 hb1 H d hd
    have hd' : (some 41 : Option Tmp) = some d := hd
    injection hd' with hd'
    subst hd'
    refine ⟨fun _ => ?_, fun hne => absurd (H.new 41 10 (by kernel_rfl)) hne⟩
    exact gives_texteq (a := (copens lc).1) (b := (copens lc).1) rfl (H.new 43 12 (by kernel_rfl)) (H.new 45 14 (by kernel_rfl)) ⟨by simp [facts, Fact.is], Below.refl _ _⟩
  · intro ρ W1 hb1 H
    exact gives_pick_t rfl (H.new 41 10 (by kernel_rfl)) (H.new 46 15 (by kernel_rfl)) ⟨rfl, Below.refl _ _⟩
  · intro ρ W1 hb1 H
    exact gives_move rfl (H.new 47 16 (by kernel_rfl)) ⟨rfl, Below.refl _ _⟩
  · intro ρ W1 hb1 H d hd
    have hd' : (some 48 : Option Tmp) = some d := hd
    injection hd' with hd'
    subst hd'
    refine ⟨fun _ => ?_, fun hne => absurd (H.new 48 17 (by kernel_rfl)) hne⟩
    exact gives_move rfl (H.old 9 _ (by kernel_rfl) rfl) ⟨rfl, Below.refl _ _⟩
  · intro ρ W1 hb1 H d hd
    have hd' : (some 48 : Option Tmp) = some d := hd
    injection hd' with hd'
    subst hd'
    refine ⟨fun _ => ?_, fun hne => absurd (H.new 48 17 (by kernel_rfl)) hne⟩
    exact gives_move rfl (H.old 11 _ (by kernel_rfl) rfl) ⟨rfl, Below.refl _ _⟩
  · intro ρ W1 hb1 H d hd
    have hd' : (some 48 : Option Tmp) = some d := hd
    injection hd' with hd'
    subst hd'
    refine ⟨fun _ => ?_, fun hne => absurd (H.new 48 17 (by kernel_rfl)) hne⟩
    exact gives_inteq rfl (H.new 49 18 (by kernel_rfl)) (H.new 50 19 (by kernel_rfl)) ⟨by simp [facts, Fact.is], Below.refl _ _⟩
  · intro ρ W1 hb1 H
    exact gives_pick_t rfl (H.new 48 17 (by kernel_rfl)) (H.new 51 20 (by kernel_rfl)) ⟨rfl, Below.refl _ _⟩
  · intro ρ W1 hb1 H
    exact gives_move rfl (H.new 52 21 (by kernel_rfl)) ⟨rfl, Below.refl _ _⟩
  · intro ρ W1 hb1 H d hd
    have hd' : (some 53 : Option Tmp) = some d := hd
    injection hd' with hd'
    subst hd'
    refine ⟨fun _ => ?_, fun hne => absurd (H.new 53 22 (by kernel_rfl)) hne⟩
    exact gives_move rfl (H.old 7 _ (by kernel_rfl) rfl) ⟨HO.out.below hb1, Below.refl _ _⟩
  · intro ρ W1 hb1 H d hd
    have hd' : (some 53 : Option Tmp) = some d := hd
    injection hd' with hd'
    subst hd'
    refine ⟨fun _ => ?_, fun hne => absurd (H.new 53 22 (by kernel_rfl)) hne⟩
    have hB : IsB (lc) (ρ (.tmp 54)) W1 := H.new 54 23 (by kernel_rfl)
    exact gives_convert rfl rfl (hB.text _ _ _ Try.underlying22 Try.underlying5 Try.underlying9) ⟨rfl, Below.refl _ _⟩
  · intro ρ W1 hb1 H d hd
    have hd' : (some 53 : Option Tmp) = some d := hd
    injection hd' with hd'
    subst hd'
    refine ⟨fun _ => ?_, fun hne => absurd (H.new 53 22 (by kernel_rfl)) hne⟩
    exact gives_move rfl (H.old 1 _ (by kernel_rfl) rfl) ⟨HUC.out.below hb1, Below.refl _ _⟩
  · intro ρ W1 hb1 H d hd
    have hd' : (some 53 : Option Tmp) = some d := hd
    injection hd' with hd'
    subst hd'
    refine ⟨fun _ => ?_, fun hne => absurd (H.new 53 22 (by kernel_rfl)) hne⟩
    have hB : IsB (lc) (ρ (.tmp 56)) W1 := H.new 56 25 (by kernel_rfl)
    exact gives_convert rfl rfl (hB.text _ _ _ Try.underlying22 Try.underlying5 Try.underlying9) ⟨rfl, Below.refl _ _⟩
  · intro ρ W1 hb1 H d hd
    have hd' : (some 53 : Option Tmp) = some d := hd
    injection hd' with hd'
    subst hd'
    refine ⟨fun _ => ?_, fun hne => absurd (H.new 53 22 (by kernel_rfl)) hne⟩
    exact gives_texteq (a := lc) (b := lc) rfl (H.new 55 24 (by kernel_rfl)) (H.new 57 26 (by kernel_rfl)) ⟨by simp [facts, Fact.is], Below.refl _ _⟩
  · intro ρ W1 hb1 H
    exact gives_pick_t rfl (H.new 53 22 (by kernel_rfl)) (H.new 58 27 (by kernel_rfl)) ⟨rfl, Below.refl _ _⟩
  · intro ρ W1 hb1 H
    exact gives_assign rfl (H.new 59 28 (by kernel_rfl)) ⟨rfl, Below.refl _ _⟩
  · intro vs W1 hb1 hfs
    have f29 : vs 29 = .bool true := hfs 29 (by decide)
    clear hfs
    simp only [putAll, Nat.zero_add, Nat.reduceAdd]
    generalize vs 0 = z0
    generalize vs 1 = z1
    generalize vs 2 = z2
    generalize vs 3 = z3
    generalize vs 4 = z4
    generalize vs 5 = z5
    generalize vs 6 = z6
    generalize vs 7 = z7
    generalize vs 8 = z8
    generalize vs 9 = z9
    generalize vs 10 = z10
    generalize vs 11 = z11
    generalize vs 12 = z12
    generalize vs 13 = z13
    generalize vs 14 = z14
    generalize vs 15 = z15
    generalize vs 16 = z16
    generalize vs 17 = z17
    generalize vs 18 = z18
    generalize vs 19 = z19
    generalize vs 20 = z20
    generalize vs 21 = z21
    generalize vs 22 = z22
    generalize vs 23 = z23
    generalize vs 24 = z24
    generalize vs 25 = z25
    generalize vs 26 = z26
    generalize vs 27 = z27
    generalize vs 28 = z28
    simp only [f29, Act.put, List.setIfInBounds_toArray, List.set_cons_succ, List.set_cons_zero]
    clear f29
    go_wp2
    go_ret
    exact ⟨rfl, below_then HB7.out hb1⟩

set_option maxRecDepth 100000 in
theorem CrcSeals_lifted (os : Os) (started : os.Started) (H : Type) (enc : TypeId × Value → H) :
    ReturnsInHanded {} Try.checked os 4 .any (Rows.crcSealsSpec.pre6 enc Try.prog Try.f4 Rows.crcSealsRow.domain false) (Rows.crcSealsSpec.post enc Try.prog Try.f4 false true false false) := by
  refine returnsInHanded_of_change (C := Try.checked) own started (by kernel_rfl) Try.func4
    (ChangeSpec.witness6 (enc := enc) (C := Try.checked) false ⟨#[], #[.slice none 0 0, .slice none 0 0], []⟩ 8 (by kernel_rfl) (by kernel_rfl) (by kernel_rfl) (by kernel_rfl)) ?_
  intro W base args ds gs before hval0 hW hcnd _
  have hval : ∀ (j : Nat) t v, Try.f4.params[j]? = some t → args[j]? = some v → Value.okWide Try.prog W .any base t v := hval0
  have hW' := hW
  obtain ⟨p, q, hT0, hV, rfl, hfz, hnd⟩ := hW
  have hA : DataW.TrodAll enc Try.prog W 0 (fun _ => true) true Try.f4.params.toList args.toList ds p := hT0
  rw [Try.params4] at hA hval
  obtain ⟨v0, vs0, d0, ds0, p0, q0, hargs, rfl, rfl, h0, r0⟩ := trodAll_cons hA
  obtain ⟨v1, vs1, d1, ds1, p1, q1, rfl, rfl, rfl, h1, r1⟩ := trodAll_cons r0
  obtain ⟨rfl, rfl, rfl⟩ := trodAll_nil r1
  obtain rfl : args = #[v0, v1] := by cases args; simp_all
  obtain ⟨rfl, rfl⟩ := trodVars_none hV
  have hlt0 : ∀ x ∈ p0, x.block < W.heap.size := fun x hx => hW'.lt x (by simp [hx])
  obtain ⟨A0, n0, c0, l0, rfl, hA0, hn0, hc0, hm0, hl0⟩ := open_bytes Try.underlying22 Try.underlying5 (by kernel_rfl) (hval 0 22 v0 rfl rfl) h0 hlt0
  have hlt1 : ∀ x ∈ p1, x.block < W.heap.size := fun x hx => hW'.lt x (by simp [hx])
  obtain ⟨A1, n1, c1, l1, rfl, hA1, hn1, hc1, hm1, hl1⟩ := open_bytes Try.underlying22 Try.underlying5 (by kernel_rfl) (hval 1 22 v1 rfl rfl) h1 hlt1
  clear hT0 hval0
  refine (CrcSeals_walk W A0 n0 c0 l0 hA0 hn0 hc0 hm0 hl0 A1 n1 c1 l1 hA1 hn1 hc1 hm1 hl1).mono fun e W' ⟨he, hb⟩ => ?_
  subst he
  exact ⟨_, rfl, law_post laidOut Try.underlying4 (by kernel_rfl) (by kernel_rfl) rfl hW' rfl hb⟩

theorem CrcSeals_over : Rows.crcSealsRow.holds Try.pinned (OpenSpec.ofChange Rows.crcSealsSpec) :=
  OpenClaim.holds_of_wide 4 Try.f4 rfl rfl rfl rfl rfl rfl rfl ⟨rfl, rfl, rfl, rfl, rfl⟩ rfl rfl rfl rfl rfl (by kernel_rfl) Try.func4 (by kernel_rfl)
    (of_decide_eq_true (by kernel_rfl)) (by unfold Func.isWrapper; first | (rw [if_pos (by decide +kernel)]; kernel_rfl) | (rw [if_neg (by decide +kernel)]; exact ⟨rfl, rfl⟩))
    (fun os started H enc _ => CrcSeals_lifted os started H enc)

theorem CrcSeals_holds : Rows.CrcSealsSaid := CrcSeals_over
#print axioms CrcSeals_holds
end Go.Proofs.Ytmmebnfahcpggaa
