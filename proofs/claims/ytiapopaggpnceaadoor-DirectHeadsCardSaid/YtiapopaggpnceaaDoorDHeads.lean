
/- The statement DirectHeads: for any numbers and any bytes the law answers true. No condition. -/

import Derived.Test.YtiapopaggpnceaaDoorDShown

import Derived.Test.YtiapopaggpnceaaDoorDRPut

import Derived.Test.YtiapopaggpnceaaDoorDoor

namespace Go.Proofs.YtiapopaggpnceaaDoor

open Go.RowKit Go.ChangeShapes Go.WideShapes Go.ChangeAt

set_option maxHeartbeats 4000000 in
set_option maxRecDepth 100000 in
theorem DirectHeads_walk (w : World) (ht : WTab w) (a b c : Int) (ha : inInt a) (hb : inInt b) (hc : inInt c) (v1 : Value) (l1 : List UInt8) (hI1 : IsB l1 v1 w) :
    Calls Tryd.prog 3 #[.agg #[.int .i64 a, .int .i64 b, .int .i64 c], v1] w fun e w' => e = .returned (.bool true) ∧ Below w.heap.size w w' := by
  obtain ⟨A1, n10, c1, rfl⟩ := IsV.shape (f := bv) hI1
  obtain ⟨hn1, -, hc1, hm1, -⟩ := IsV.parts (f := bv) hI1
  obtain ⟨n1, hmin1⟩ : ∃ n, n = min n10 50 := ⟨_, rfl⟩
  have HI := Lib.hid (IsV.take (f := bv) hI1 (show n1 ≤ n10 by omega))
  have HIL := Lib.hid (show (l1.take n1).length = n1 by rw [List.length_take]; omega)
  have hci1 : (c1 : Int) ≤ 9223372036854775807 := by unfold maxLen at hm1; omega
  have hnb1 : n1 ≤ 50 := by omega
  have hnc1 : n1 ≤ c1 := by omega
  obtain ⟨l1c, hl1c⟩ : ∃ l, l = l1.take n1 := ⟨_, rfl⟩
  rw [← hl1c] at HI HIL
  clear hI1 hn1 hm1 hl1c
  have HIM := Lib.hid (show (l1c.map bv).length = n1 by rw [List.length_map]; exact HIL.out)
  have HT := Lib.hid ht
  have HA := Lib.hid ha
  have HB2 := Lib.hid hb
  have HC2 := Lib.hid hc
  clear ht ha hb hc
  rcases (by omega : n10 ≤ 50 ∧ n1 = n10 ∨ 50 < n10 ∧ n1 = 50) with ⟨h6, rfl⟩ | ⟨h6, rfl⟩
  all_goals
    clear hmin1
    have hb0 : Below w.heap.size w (w.alloc (.cells #[.int .i64 a, .int .i64 b, .int .i64 c] 22)) := (Below.refl _ _).alloc (Nat.le_refl _) _
    have HT := Lib.hid (WTab.below HT.out hb0 (WTab.lt HT.out))
    have HI := Lib.hid (IsB.below HI.out hb0)
    have HB := Lib.hid hb0
    have HR : Hid (Row (w.alloc (.cells #[.int .i64 a, .int .i64 b, .int .i64 c] 22)) w.heap.size 22 [.int .i64 a, .int .i64 b, .int .i64 c]) := Lib.hid (heap_alloc_new w _)
    clear hb0
    go_enter Tryd.func3, Tryd.ntmps3
    go_wp2_with fail
    refine (shown_any _ HT.out).mono ?_
    rintro e w1 ⟨rfl, hb1⟩
    have HT := Lib.hid (WTab.below HT.out hb1 (WTab.lt HT.out))
    have HI := Lib.hid (IsB.below HI.out hb1)
    have HR := Lib.hid (Row.below HR.out hb1 (Row.lt HR.out))
    have HB := Lib.hid (below_then HB.out hb1)
    clear hb1
    obtain ⟨-, hA2, -, -, hlies2⟩ := IsV.parts (f := bv) HI.out
    have hown2 := own_made w1 5
    have hbA2 : Below w1.heap.size w1 (w1.alloc (.cells #[] 5)) := (Below.refl _ _).alloc (Nat.le_refl _) _
    have hlA2 := hlies2.below hbA2
    have hzz2 := hbA2.size
    clear hlies2
    go_wp2_with (at_builtin; refine wpList_join elemB rfl _ _ rfl w1.heap.size _ _ _ _ _ _ (l1c.map bv) w1 rfl rfl hA2 HIM.out hlA2 (bv_one l1c) hown2 hbA2 hzz2 (by omega) (by omega) ?_)
    intro v2 w2 hown2' hb2 _ _
    have HC := Lib.hid (show IsB l1c v2 w2 from isB_own (by simpa using hown2'))
    have HT := Lib.hid (WTab.below HT.out hb2 (WTab.lt HT.out))
    have HI := Lib.hid (IsB.below HI.out hb2)
    have HR := Lib.hid (Row.below HR.out hb2 (Row.lt HR.out))
    have HB := Lib.hid (below_then HB.out hb2)
    clear hown2 hown2' hbA2 hlA2 hzz2 hb2 hA2
    go_wp2_with fail
    refine (dlook_any l1c v2 _ HC.out (by have := HIL.out; omega)).mono ?_
    rintro e w3 ⟨p, rfl, hp, hb3⟩
    have HT := Lib.hid (WTab.below HT.out hb3 (WTab.lt HT.out))
    have HI := Lib.hid (IsB.below HI.out hb3)
    have HR := Lib.hid (Row.below HR.out hb3 (Row.lt HR.out))
    have HC := Lib.hid (IsB.below HC.out hb3)
    have HB := Lib.hid (below_then HB.out hb3)
    have HP := Lib.hid hp
    clear hp hb3
    go_wp2_with fail
    refine (rlook8_any l1c _ _ HI.out (by have := HIL.out; omega)).mono ?_
    rintro e w4 ⟨q, rfl, hq, hb4⟩
    have HT := Lib.hid (WTab.below HT.out hb4 (WTab.lt HT.out))
    have HI := Lib.hid (IsB.below HI.out hb4)
    have HR := Lib.hid (Row.below HR.out hb4 (Row.lt HR.out))
    have HC := Lib.hid (IsB.below HC.out hb4)
    have HP := Lib.hid (IsB.below HP.out hb4)
    have HB := Lib.hid (below_then HB.out hb4)
    have HQ := Lib.hid hq
    clear hq hb4
    go_wp2_with fail
    refine wp_region_list [.is (.bool true), .is (.bool true), .is (.pointer (some ⟨w.heap.size, 0, none⟩)), .is (.int .i64 a), .is (.pointer (some ⟨w.heap.size, 1, none⟩)), .is (.int .i64 b), .is (.pointer (some ⟨w.heap.size, 2, none⟩)), .is (.int .i64 c), .bytes (dhead a b c), .is (.string ⟨(dhead a b c).toArray⟩), .is (.pointer (some ⟨w.heap.size, 0, none⟩)), .is (.int .i64 a), .is (.pointer (some ⟨w.heap.size, 1, none⟩)), .is (.int .i64 b), .is (.pointer (some ⟨w.heap.size, 2, none⟩)), .is (.int .i64 c), .bytes (dhead a b c), .is (.string ⟨(dhead a b c).toArray⟩), .is (.bool true), .is (.bool true), .is (.bool true), .is (.int .i64 (dlook l1c).1), .is (.int .i64 (dlook l1c).1), .is (.bool true), .is (.bool true), .is (.bool true), .is (.int .i64 (dlook l1c).2.1), .is (.int .i64 (dlook l1c).2.1), .is (.bool true), .is (.bool true), .is (.bool true), .is (.int .i64 (dlook l1c).2.2.1), .is (.int .i64 (dlook l1c).2.2.1), .is (.bool true), .is (.bool true), .is (.bool true), .bytes ((dlook l1c).2.2.2.1), .is (.string ⟨((dlook l1c).2.2.2.1).toArray⟩), .bytes ((dlook l1c).2.2.2.1), .is (.string ⟨((dlook l1c).2.2.2.1).toArray⟩), .is (.bool true), .is (.bool true), .is (.bool true), .is (.int .i64 (dlook l1c).2.2.2.2), .is (.int .i64 (dlook l1c).2.2.2.2), .is (.bool true), .is (.bool true), .is (.bool true)] [some 40, some 41, some 42, some 43, some 44, some 45, some 46, some 47, some 48, some 49, some 50, some 51, some 52, some 53, some 54, some 55, some 56, some 57, some 58, some 59, some 60, some 61, some 62, some 63, some 64, some 65, some 66, some 67, some 68, some 69, some 70, some 71, some 72, some 73, some 74, some 75, some 76, some 77, some 78, some 79, some 80, some 81, some 82, some 83, some 84, some 85, some 86, some 4] (by kernel_rfl) (by kernel_rfl) (by kernel_rfl) rfl ⟨?_, ?_, ?_, ?_, ?_, ?_, ?_, ?_, ?_, ?_, ?_, ?_, ?_, ?_, ?_, ?_, ?_, ?_, ?_, ?_, ?_, ?_, ?_, ?_, ?_, ?_, ?_, ?_, ?_, ?_, ?_, ?_, ?_, ?_, ?_, ?_, ?_, ?_, ?_, ?_, ?_, ?_, ?_, ?_, ?_, ?_, ?_, ?_, trivial⟩ ?_
    · intro ρ W1 hb1 H
      exact gives_move rfl (H.old 5 _ (by kernel_rfl) rfl) ⟨rfl, Below.refl _ _⟩
    · intro ρ W1 hb1 H
      exact gives_move rfl (H.new 40 0 (by kernel_rfl)) ⟨rfl, Below.refl _ _⟩
    · intro ρ W1 hb1 H d hd
      have hd' : (some 41 : Option Tmp) = some d := hd
      injection hd' with hd'
      subst hd'
      refine ⟨fun _ => ?_, fun hne => absurd (H.new 41 1 (by kernel_rfl)) hne⟩
      exact gives_index_arr (k := 0) Tryd.underlying22 (fun W => elemI.size_ W) rfl (H.old 2 _ (by kernel_rfl) rfl) (H.const _) (by decide) ⟨rfl, Below.refl _ _⟩
    · intro ρ W1 hb1 H d hd
      have hd' : (some 41 : Option Tmp) = some d := hd
      injection hd' with hd'
      subst hd'
      refine ⟨fun _ => ?_, fun hne => absurd (H.new 41 1 (by kernel_rfl)) hne⟩
      exact gives_load rfl (H.new 42 2 (by kernel_rfl)) Tryd.underlying3 rfl ((HR.out.below hb1 HR.out.lt).cell 0) ⟨rfl, Below.refl _ _⟩
    · intro ρ W1 hb1 H d hd
      have hd' : (some 41 : Option Tmp) = some d := hd
      injection hd' with hd'
      subst hd'
      refine ⟨fun _ => ?_, fun hne => absurd (H.new 41 1 (by kernel_rfl)) hne⟩
      exact gives_index_arr (k := 1) Tryd.underlying22 (fun W => elemI.size_ W) rfl (H.old 2 _ (by kernel_rfl) rfl) (H.const _) (by decide) ⟨rfl, Below.refl _ _⟩
    · intro ρ W1 hb1 H d hd
      have hd' : (some 41 : Option Tmp) = some d := hd
      injection hd' with hd'
      subst hd'
      refine ⟨fun _ => ?_, fun hne => absurd (H.new 41 1 (by kernel_rfl)) hne⟩
      exact gives_load rfl (H.new 44 4 (by kernel_rfl)) Tryd.underlying3 rfl ((HR.out.below hb1 HR.out.lt).cell 1) ⟨rfl, Below.refl _ _⟩
    · intro ρ W1 hb1 H d hd
      have hd' : (some 41 : Option Tmp) = some d := hd
      injection hd' with hd'
      subst hd'
      refine ⟨fun _ => ?_, fun hne => absurd (H.new 41 1 (by kernel_rfl)) hne⟩
      exact gives_index_arr (k := 2) Tryd.underlying22 (fun W => elemI.size_ W) rfl (H.old 2 _ (by kernel_rfl) rfl) (H.const _) (by decide) ⟨rfl, Below.refl _ _⟩
    · intro ρ W1 hb1 H d hd
      have hd' : (some 41 : Option Tmp) = some d := hd
      injection hd' with hd'
      subst hd'
      refine ⟨fun _ => ?_, fun hne => absurd (H.new 41 1 (by kernel_rfl)) hne⟩
      exact gives_load rfl (H.new 46 6 (by kernel_rfl)) Tryd.underlying3 rfl ((HR.out.below hb1 HR.out.lt).cell 2) ⟨rfl, Below.refl _ _⟩
    · intro ρ W1 hb1 H d hd
      have hd' : (some 41 : Option Tmp) = some d := hd
      injection hd' with hd'
      subst hd'
      refine ⟨fun _ => ?_, fun hne => absurd (H.new 41 1 (by kernel_rfl)) hne⟩
      have e0 : ρ (.tmp 43) = .int .i64 a := H.new 43 3 (by kernel_rfl)
      have e1 : ρ (.tmp 45) = .int .i64 b := H.new 45 5 (by kernel_rfl)
      have e2 : ρ (.tmp 47) = .int .i64 c := H.new 47 7 (by kernel_rfl)
      refine gives_call rfl (fun _ _ => by kernel_rfl) (H.func _) (args := #[.int .i64 a, .int .i64 b, .int .i64 c]) (by simp [e0, e1, e2]) ?_
      exact (dhead_any a b c W1 (HT.out.below hb1 HT.out.lt) HA.out HB2.out HC2.out).mono fun _ _ h => h
    · intro ρ W1 hb1 H d hd
      have hd' : (some 41 : Option Tmp) = some d := hd
      injection hd' with hd'
      subst hd'
      refine ⟨fun _ => ?_, fun hne => absurd (H.new 41 1 (by kernel_rfl)) hne⟩
      have hB : IsB (dhead a b c) (ρ (.tmp 48)) W1 := H.new 48 8 (by kernel_rfl)
      exact gives_convert rfl rfl (hB.text _ _ _ Tryd.underlying23 Tryd.underlying5 Tryd.underlying9) ⟨rfl, Below.refl _ _⟩
    · intro ρ W1 hb1 H d hd
      have hd' : (some 41 : Option Tmp) = some d := hd
      injection hd' with hd'
      subst hd'
      refine ⟨fun _ => ?_, fun hne => absurd (H.new 41 1 (by kernel_rfl)) hne⟩
      exact gives_index_arr (k := 0) Tryd.underlying22 (fun W => elemI.size_ W) rfl (H.old 2 _ (by kernel_rfl) rfl) (H.const _) (by decide) ⟨rfl, Below.refl _ _⟩
    · intro ρ W1 hb1 H d hd
      have hd' : (some 41 : Option Tmp) = some d := hd
      injection hd' with hd'
      subst hd'
      refine ⟨fun _ => ?_, fun hne => absurd (H.new 41 1 (by kernel_rfl)) hne⟩
      exact gives_load rfl (H.new 50 10 (by kernel_rfl)) Tryd.underlying3 rfl ((HR.out.below hb1 HR.out.lt).cell 0) ⟨rfl, Below.refl _ _⟩
    · intro ρ W1 hb1 H d hd
      have hd' : (some 41 : Option Tmp) = some d := hd
      injection hd' with hd'
      subst hd'
      refine ⟨fun _ => ?_, fun hne => absurd (H.new 41 1 (by kernel_rfl)) hne⟩
      exact gives_index_arr (k := 1) Tryd.underlying22 (fun W => elemI.size_ W) rfl (H.old 2 _ (by kernel_rfl) rfl) (H.const _) (by decide) ⟨rfl, Below.refl _ _⟩
    · intro ρ W1 hb1 H d hd
      have hd' : (some 41 : Option Tmp) = some d := hd
      injection hd' with hd'
      subst hd'
      refine ⟨fun _ => ?_, fun hne => absurd (H.new 41 1 (by kernel_rfl)) hne⟩
      exact gives_load rfl (H.new 52 12 (by kernel_rfl)) Tryd.underlying3 rfl ((HR.out.below hb1 HR.out.lt).cell 1) ⟨rfl, Below.refl _ _⟩
    · intro ρ W1 hb1 H d hd
      have hd' : (some 41 : Option Tmp) = some d := hd
      injection hd' with hd'
      subst hd'
      refine ⟨fun _ => ?_, fun hne => absurd (H.new 41 1 (by kernel_rfl)) hne⟩
      exact gives_index_arr (k := 2) Tryd.underlying22 (fun W => elemI.size_ W) rfl (H.old 2 _ (by kernel_rfl) rfl) (H.const _) (by decide) ⟨rfl, Below.refl _ _⟩
    · intro ρ W1 hb1 H d hd
      have hd' : (some 41 : Option Tmp) = some d := hd
      injection hd' with hd'
      subst hd'
      refine ⟨fun _ => ?_, fun hne => absurd (H.new 41 1 (by kernel_rfl)) hne⟩
      exact gives_load rfl (H.new 54 14 (by kernel_rfl)) Tryd.underlying3 rfl ((HR.out.below hb1 HR.out.lt).cell 2) ⟨rfl, Below.refl _ _⟩
    · intro ρ W1 hb1 H d hd
      have hd' : (some 41 : Option Tmp) = some d := hd
      injection hd' with hd'
      subst hd'
      refine ⟨fun _ => ?_, fun hne => absurd (H.new 41 1 (by kernel_rfl)) hne⟩
      have e0 : ρ (.tmp 51) = .int .i64 a := H.new 51 11 (by kernel_rfl)
      have e1 : ρ (.tmp 53) = .int .i64 b := H.new 53 13 (by kernel_rfl)
      have e2 : ρ (.tmp 55) = .int .i64 c := H.new 55 15 (by kernel_rfl)
      refine gives_call rfl (fun _ _ => by kernel_rfl) (H.func _) (args := #[.int .i64 a, .int .i64 b, .int .i64 c]) (by simp [e0, e1, e2]) ?_
      exact (rhead8_any a b c W1).mono fun _ _ ⟨v, h1, h2, h3⟩ => ⟨v, h1, isB_own h2, h3⟩
    · intro ρ W1 hb1 H d hd
      have hd' : (some 41 : Option Tmp) = some d := hd
      injection hd' with hd'
      subst hd'
      refine ⟨fun _ => ?_, fun hne => absurd (H.new 41 1 (by kernel_rfl)) hne⟩
      have hB : IsB (dhead a b c) (ρ (.tmp 56)) W1 := H.new 56 16 (by kernel_rfl)
      exact gives_convert rfl rfl (hB.text _ _ _ Tryd.underlying23 Tryd.underlying5 Tryd.underlying9) ⟨rfl, Below.refl _ _⟩
    · intro ρ W1 hb1 H d hd
      have hd' : (some 41 : Option Tmp) = some d := hd
      injection hd' with hd'
      subst hd'
      refine ⟨fun _ => ?_, fun hne => absurd (H.new 41 1 (by kernel_rfl)) hne⟩
      exact gives_texteq (a := dhead a b c) (b := dhead a b c) rfl (H.new 49 9 (by kernel_rfl)) (H.new 57 17 (by kernel_rfl)) ⟨by simp [facts, Fact.is], Below.refl _ _⟩
    · intro ρ W1 hb1 H
      exact gives_pick_t rfl (H.new 41 1 (by kernel_rfl)) (H.new 58 18 (by kernel_rfl)) ⟨rfl, Below.refl _ _⟩
    · intro ρ W1 hb1 H
      exact gives_move rfl (H.new 59 19 (by kernel_rfl)) ⟨rfl, Below.refl _ _⟩
    · intro ρ W1 hb1 H d hd
      have hd' : (some 60 : Option Tmp) = some d := hd
      injection hd' with hd'
      subst hd'
      refine ⟨fun _ => ?_, fun hne => absurd (H.new 60 20 (by kernel_rfl)) hne⟩
      exact gives_move rfl (H.old 6 _ (by kernel_rfl) rfl) ⟨rfl, Below.refl _ _⟩
    · intro ρ W1 hb1 H d hd
      have hd' : (some 60 : Option Tmp) = some d := hd
      injection hd' with hd'
      subst hd'
      refine ⟨fun _ => ?_, fun hne => absurd (H.new 60 20 (by kernel_rfl)) hne⟩
      exact gives_move rfl (H.old 11 _ (by kernel_rfl) rfl) ⟨rfl, Below.refl _ _⟩
    · intro ρ W1 hb1 H d hd
      have hd' : (some 60 : Option Tmp) = some d := hd
      injection hd' with hd'
      subst hd'
      refine ⟨fun _ => ?_, fun hne => absurd (H.new 60 20 (by kernel_rfl)) hne⟩
      exact gives_inteq rfl (H.new 61 21 (by kernel_rfl)) (H.new 62 22 (by kernel_rfl)) ⟨by simp [facts, Fact.is], Below.refl _ _⟩
    · intro ρ W1 hb1 H
      exact gives_pick_t rfl (H.new 60 20 (by kernel_rfl)) (H.new 63 23 (by kernel_rfl)) ⟨rfl, Below.refl _ _⟩
    · intro ρ W1 hb1 H
      exact gives_move rfl (H.new 64 24 (by kernel_rfl)) ⟨rfl, Below.refl _ _⟩
    · intro ρ W1 hb1 H d hd
      have hd' : (some 65 : Option Tmp) = some d := hd
      injection hd' with hd'
      subst hd'
      refine ⟨fun _ => ?_, fun hne => absurd (H.new 65 25 (by kernel_rfl)) hne⟩
      exact gives_move rfl (H.old 7 _ (by kernel_rfl) rfl) ⟨rfl, Below.refl _ _⟩
    · intro ρ W1 hb1 H d hd
      have hd' : (some 65 : Option Tmp) = some d := hd
      injection hd' with hd'
      subst hd'
      refine ⟨fun _ => ?_, fun hne => absurd (H.new 65 25 (by kernel_rfl)) hne⟩
      exact gives_move rfl (H.old 12 _ (by kernel_rfl) rfl) ⟨rfl, Below.refl _ _⟩
    · intro ρ W1 hb1 H d hd
      have hd' : (some 65 : Option Tmp) = some d := hd
      injection hd' with hd'
      subst hd'
      refine ⟨fun _ => ?_, fun hne => absurd (H.new 65 25 (by kernel_rfl)) hne⟩
      exact gives_inteq rfl (H.new 66 26 (by kernel_rfl)) (H.new 67 27 (by kernel_rfl)) ⟨by simp [facts, Fact.is], Below.refl _ _⟩
    · intro ρ W1 hb1 H
      exact gives_pick_t rfl (H.new 65 25 (by kernel_rfl)) (H.new 68 28 (by kernel_rfl)) ⟨rfl, Below.refl _ _⟩
    · intro ρ W1 hb1 H
      exact gives_move rfl (H.new 69 29 (by kernel_rfl)) ⟨rfl, Below.refl _ _⟩
    · intro ρ W1 hb1 H d hd
      have hd' : (some 70 : Option Tmp) = some d := hd
      injection hd' with hd'
      subst hd'
      refine ⟨fun _ => ?_, fun hne => absurd (H.new 70 30 (by kernel_rfl)) hne⟩
      exact gives_move rfl (H.old 8 _ (by kernel_rfl) rfl) ⟨rfl, Below.refl _ _⟩
    · intro ρ W1 hb1 H d hd
      have hd' : (some 70 : Option Tmp) = some d := hd
      injection hd' with hd'
      subst hd'
      refine ⟨fun _ => ?_, fun hne => absurd (H.new 70 30 (by kernel_rfl)) hne⟩
      exact gives_move rfl (H.old 13 _ (by kernel_rfl) rfl) ⟨rfl, Below.refl _ _⟩
    · intro ρ W1 hb1 H d hd
      have hd' : (some 70 : Option Tmp) = some d := hd
      injection hd' with hd'
      subst hd'
      refine ⟨fun _ => ?_, fun hne => absurd (H.new 70 30 (by kernel_rfl)) hne⟩
      exact gives_inteq rfl (H.new 71 31 (by kernel_rfl)) (H.new 72 32 (by kernel_rfl)) ⟨by simp [facts, Fact.is], Below.refl _ _⟩
    · intro ρ W1 hb1 H
      exact gives_pick_t rfl (H.new 70 30 (by kernel_rfl)) (H.new 73 33 (by kernel_rfl)) ⟨rfl, Below.refl _ _⟩
    · intro ρ W1 hb1 H
      exact gives_move rfl (H.new 74 34 (by kernel_rfl)) ⟨rfl, Below.refl _ _⟩
    · intro ρ W1 hb1 H d hd
      have hd' : (some 75 : Option Tmp) = some d := hd
      injection hd' with hd'
      subst hd'
      refine ⟨fun _ => ?_, fun hne => absurd (H.new 75 35 (by kernel_rfl)) hne⟩
      exact gives_move rfl (H.old 9 _ (by kernel_rfl) rfl) ⟨HP.out.below hb1, Below.refl _ _⟩
    · intro ρ W1 hb1 H d hd
      have hd' : (some 75 : Option Tmp) = some d := hd
      injection hd' with hd'
      subst hd'
      refine ⟨fun _ => ?_, fun hne => absurd (H.new 75 35 (by kernel_rfl)) hne⟩
      have hB : IsB ((dlook l1c).2.2.2.1) (ρ (.tmp 76)) W1 := H.new 76 36 (by kernel_rfl)
      exact gives_convert rfl rfl (hB.text _ _ _ Tryd.underlying23 Tryd.underlying5 Tryd.underlying9) ⟨rfl, Below.refl _ _⟩
    · intro ρ W1 hb1 H d hd
      have hd' : (some 75 : Option Tmp) = some d := hd
      injection hd' with hd'
      subst hd'
      refine ⟨fun _ => ?_, fun hne => absurd (H.new 75 35 (by kernel_rfl)) hne⟩
      exact gives_move rfl (H.old 14 _ (by kernel_rfl) rfl) ⟨HQ.out.below hb1, Below.refl _ _⟩
    · intro ρ W1 hb1 H d hd
      have hd' : (some 75 : Option Tmp) = some d := hd
      injection hd' with hd'
      subst hd'
      refine ⟨fun _ => ?_, fun hne => absurd (H.new 75 35 (by kernel_rfl)) hne⟩
      have hB : IsB ((dlook l1c).2.2.2.1) (ρ (.tmp 78)) W1 := H.new 78 38 (by kernel_rfl)
      exact gives_convert rfl rfl (hB.text _ _ _ Tryd.underlying23 Tryd.underlying5 Tryd.underlying9) ⟨rfl, Below.refl _ _⟩
    · intro ρ W1 hb1 H d hd
      have hd' : (some 75 : Option Tmp) = some d := hd
      injection hd' with hd'
      subst hd'
      refine ⟨fun _ => ?_, fun hne => absurd (H.new 75 35 (by kernel_rfl)) hne⟩
      exact gives_texteq (a := (dlook l1c).2.2.2.1) (b := (dlook l1c).2.2.2.1) rfl (H.new 77 37 (by kernel_rfl)) (H.new 79 39 (by kernel_rfl)) ⟨by simp [facts, Fact.is], Below.refl _ _⟩
    · intro ρ W1 hb1 H
      exact gives_pick_t rfl (H.new 75 35 (by kernel_rfl)) (H.new 80 40 (by kernel_rfl)) ⟨rfl, Below.refl _ _⟩
    · intro ρ W1 hb1 H
      exact gives_move rfl (H.new 81 41 (by kernel_rfl)) ⟨rfl, Below.refl _ _⟩
    · intro ρ W1 hb1 H d hd
      have hd' : (some 82 : Option Tmp) = some d := hd
      injection hd' with hd'
      subst hd'
      refine ⟨fun _ => ?_, fun hne => absurd (H.new 82 42 (by kernel_rfl)) hne⟩
      exact gives_move rfl (H.old 10 _ (by kernel_rfl) rfl) ⟨rfl, Below.refl _ _⟩
    · intro ρ W1 hb1 H d hd
      have hd' : (some 82 : Option Tmp) = some d := hd
      injection hd' with hd'
      subst hd'
      refine ⟨fun _ => ?_, fun hne => absurd (H.new 82 42 (by kernel_rfl)) hne⟩
      exact gives_move rfl (H.old 15 _ (by kernel_rfl) rfl) ⟨rfl, Below.refl _ _⟩
    · intro ρ W1 hb1 H d hd
      have hd' : (some 82 : Option Tmp) = some d := hd
      injection hd' with hd'
      subst hd'
      refine ⟨fun _ => ?_, fun hne => absurd (H.new 82 42 (by kernel_rfl)) hne⟩
      exact gives_inteq rfl (H.new 83 43 (by kernel_rfl)) (H.new 84 44 (by kernel_rfl)) ⟨by simp [facts, Fact.is], Below.refl _ _⟩
    · intro ρ W1 hb1 H
      exact gives_pick_t rfl (H.new 82 42 (by kernel_rfl)) (H.new 85 45 (by kernel_rfl)) ⟨rfl, Below.refl _ _⟩
    · intro ρ W1 hb1 H
      exact gives_assign rfl (H.new 86 46 (by kernel_rfl)) ⟨rfl, Below.refl _ _⟩
    · intro vs W1 hb1 hfs
      have f47 : vs 47 = .bool true := hfs 47 (by decide)
      clear hfs
      simp only [putAll, Nat.zero_add, Nat.reduceAdd]
      generalize vs 0 = z0
      generalize vs 1 = z1
      generalize vs 2 = z2
      generalize vs 3 = z3
      generalize vs 4 = z4
      generalize vs 5 = z5
      generalize vs 6 = z6
      generalize vs 7 = z7
      generalize vs 8 = z8
      generalize vs 9 = z9
      generalize vs 10 = z10
      generalize vs 11 = z11
      generalize vs 12 = z12
      generalize vs 13 = z13
      generalize vs 14 = z14
      generalize vs 15 = z15
      generalize vs 16 = z16
      generalize vs 17 = z17
      generalize vs 18 = z18
      generalize vs 19 = z19
      generalize vs 20 = z20
      generalize vs 21 = z21
      generalize vs 22 = z22
      generalize vs 23 = z23
      generalize vs 24 = z24
      generalize vs 25 = z25
      generalize vs 26 = z26
      generalize vs 27 = z27
      generalize vs 28 = z28
      generalize vs 29 = z29
      generalize vs 30 = z30
      generalize vs 31 = z31
      generalize vs 32 = z32
      generalize vs 33 = z33
      generalize vs 34 = z34
      generalize vs 35 = z35
      generalize vs 36 = z36
      generalize vs 37 = z37
      generalize vs 38 = z38
      generalize vs 39 = z39
      generalize vs 40 = z40
      generalize vs 41 = z41
      generalize vs 42 = z42
      generalize vs 43 = z43
      generalize vs 44 = z44
      generalize vs 45 = z45
      generalize vs 46 = z46
      simp only [f47, Act.put, List.setIfInBounds_toArray, List.set_cons_succ, List.set_cons_zero]
      clear f47
      go_wp2
      go_ret
      exact ⟨rfl, below_then HB.out hb1⟩

set_option maxRecDepth 100000 in
theorem DirectHeads_lifted (os : Os) (started : os.Started) (H : Type) (enc : TypeId × Value → H) :
    ReturnsInHanded {} Tryd.checked os 3 .any (fun w args => (Rows.directHeadsSpec.pre enc Tryd.prog Tryd.f3 [] false w args ∧ laidMetH Tryd.prog [("pilaster/widths.table", Rows.laid_pilaster_widths_table)] w) ∧ sizedMet enc Tryd.prog Tryd.f3 (OpenSpec.ofChange Rows.directHeadsSpec) false w args) (Rows.directHeadsSpec.post enc Tryd.prog Tryd.f3 false true false false) := by
  refine returnsInHanded_of_change_and (C := Tryd.checked) (X := fun w _ => laidMetH Tryd.prog [("pilaster/widths.table", Rows.laid_pilaster_widths_table)] w) (fun _ _ _ hh h => h.of_heap hh) own started (by kernel_rfl) Tryd.func3
    (ChangeSpec.witness_shaped (enc := enc) (C := Tryd.checked) (os := os) (X := fun w _ => laidMetH Tryd.prog [("pilaster/widths.table", Rows.laid_pilaster_widths_table)] w) false (World.doorLaid Tryd.prog 400 os) #[.agg #[.int .i64 0, .int .i64 0, .int .i64 0], .slice none 0 0] 8 rfl (World.shaped_of_RefB (by kernel_rfl) (by kernel_rfl)) (by kernel_rfl) (by kernel_rfl) (by kernel_rfl) (door_met os _)) ?_
  intro W base args ds gs before hval0 hW _ _ hL _
  have hT := tab_of hL
  clear hL
  have hval : ∀ (j : Nat) t v, Tryd.f3.params[j]? = some t → args[j]? = some v → Value.okWide Tryd.prog W .any base t v := hval0
  have hW' := hW
  obtain ⟨p, q, hT0, hV, rfl, hfz, hnd⟩ := hW
  have hA : DataW.TrodAll enc Tryd.prog W 0 (fun _ => true) true Tryd.f3.params.toList args.toList ds p := hT0
  rw [Tryd.params3] at hA hval
  obtain ⟨v0, vs0, d0, ds0, p0, q0, hargs, rfl, rfl, h0, r0⟩ := trodAll_cons hA
  obtain ⟨v1, vs1, d1, ds1, p1, q1, rfl, rfl, rfl, h1, r1⟩ := trodAll_cons r0
  obtain ⟨rfl, rfl, rfl⟩ := trodAll_nil r1
  obtain rfl : args = #[v0, v1] := by cases args; simp_all
  obtain ⟨rfl, rfl⟩ := trodVars_none hV
  obtain ⟨a0, b0, c0, rfl, wa0, wb0, wc0⟩ := open_arr3 Tryd.underlying22 Tryd.underlying3 (by kernel_rfl) (by kernel_rfl) (hval 0 22 v0 rfl rfl) h0
  have hlt1 : ∀ x ∈ p1, x.block < W.heap.size := fun x hx => hW'.lt x (by simp [hx])
  obtain ⟨l1, hl1⟩ := open_bytesv Tryd.underlying23 Tryd.underlying5 (by kernel_rfl) (hval 1 23 v1 rfl rfl) h1 hlt1
  clear hT0 hval0
  refine (DirectHeads_walk W hT a0 b0 c0 (wf_i64 wa0) (wf_i64 wb0) (wf_i64 wc0) v1 l1 hl1).mono fun e W' ⟨he, hb⟩ => ?_
  subst he
  exact ⟨_, rfl, law_post laidOut Tryd.underlying4 (by kernel_rfl) (by kernel_rfl) rfl hW' rfl hb⟩

theorem DirectHeads_over : Rows.directHeadsRow.holds Tryd.pinned (OpenSpec.ofChange Rows.directHeadsSpec) :=
  OpenClaim.holds_of_wide 3 Tryd.f3 rfl rfl rfl rfl rfl rfl rfl ⟨rfl, rfl, rfl, rfl, rfl⟩ rfl rfl rfl rfl rfl (by kernel_rfl) Tryd.func3 (by kernel_rfl)
    (of_decide_eq_true (by kernel_rfl)) (by unfold Func.isWrapper; first | (rw [if_pos (by decide +kernel)]; kernel_rfl) | (rw [if_neg (by decide +kernel)]; exact ⟨rfl, rfl⟩))
    (fun os started H enc _ => DirectHeads_lifted os started H enc)

theorem DirectHeads_holds : Rows.DirectHeadsCardSaid :=
  Claim7.holds_tied_plain_at .later [] _ true _ _ DirectHeads_over (fun _ h => by cases h) (by kernel_rfl) (fun _ h => by cases h) directHeads_row_tie rfl ⟨rfl, rfl⟩ (by kernel_rfl) rfl
    (fun f fn hf hfn => by
      obtain rfl : f = 3 := Option.some.inj ((show Tryd.prog.funcNamed "pilaster/pilasterlaw08.DirectHeads" = some 3 by kernel_rfl).symm.trans hf) |>.symm
      obtain rfl : fn = Tryd.f3 := (Option.some.inj (Tryd.func3.symm.trans hfn)).symm
      exact ⟨by kernel_rfl, fun j t ht => stand_ins (by kernel_rfl) ht⟩)
    (by kernel_rfl)
#print axioms DirectHeads_holds

end Go.Proofs.YtiapopaggpnceaaDoor
