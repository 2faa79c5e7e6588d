/- The contract of the reference's Open. -/
import Derived.Test.YtmmebnfahcpggaaCOpen
namespace Go.Proofs.Ytmmebnfahcpggaa
open Go.RowKit

set_option maxHeartbeats 1000000 in
set_option maxRecDepth 100000 in
theorem ropen_any (l : List UInt8) (v : Value) (w : World) (hl : IsB l v w) (hlen : l.length ≤ 1000000) :
    Calls Try.prog 14 #[v] w (RetE w (copens l)) := by
  have HL := Lib.hid hl
  obtain ⟨A, c, rfl, hA, hnc, hcm, hlies⟩ := hl
  by_cases h4 : l.length < 4
  · have HC := Lib.hid (copens_short h4)
    have H4 := Lib.hid (decide_eq_true (show (l.length : Int) < 4 by omega))
    obtain ⟨n, hn⟩ : ∃ n, n = l.length := ⟨_, rfl⟩
    rw [← hn] at H4 HL h4 ⊢
    clear hn hcm hlies hnc hA
    go_enter Try.func14, Try.ntmps14
    go_wp2
    refine wp_region_list [.is (.slice A n c), .is (.int .i64 (n : Int)), .is (.bool true), .is (.bool true), .any, .any, .any, .any, .any, .any, .any, .any, .any, .any, .is (.bool true)] [some 4, some 5, some 6, some 7, some 8, some 9, some 10, some 11, some 12, some 13, some 14, some 15, some 16, some 17, some 18] (by kernel_rfl) (by kernel_rfl) (by kernel_rfl) rfl ⟨?_, ?_, ?_, ?_, ?_, ?_, ?_, ?_, ?_, ?_, ?_, ?_, ?_, ?_, ?_, trivial⟩ ?_
    · intro ρ W1 hb1 H
      exact gives_move rfl (H.old 0 _ (by kernel_rfl) rfl) ⟨rfl, Below.refl _ _⟩
    · intro ρ W1 hb1 H
      exact gives_len Try.underlying22 rfl (H.new 4 0 (by kernel_rfl)) ⟨rfl, Below.refl _ _⟩
    · intro ρ W1 hb1 H
      exact gives_lt rfl (H.new 5 1 (by kernel_rfl)) (H.const _) ⟨by rw [H4.out]; rfl, Below.refl _ _⟩
    · intro ρ W1 hb1 H
      exact gives_move rfl (H.new 6 2 (by kernel_rfl)) ⟨rfl, Below.refl _ _⟩
    · intro ρ W1 hb1 H d hd
      have hd' : (some 7 : Option Tmp) = some d := hd
      injection hd' with hd'
      subst hd'
      exact ⟨(fun hh => by cases hh.symm.trans (H.new 7 3 (by kernel_rfl))), fun _ => trivial⟩
    · intro ρ W1 hb1 H d hd
      have hd' : (some 7 : Option Tmp) = some d := hd
      injection hd' with hd'
      subst hd'
      exact ⟨(fun hh => by cases hh.symm.trans (H.new 7 3 (by kernel_rfl))), fun _ => trivial⟩
    · intro ρ W1 hb1 H d hd
      have hd' : (some 7 : Option Tmp) = some d := hd
      injection hd' with hd'
      subst hd'
      exact ⟨(fun hh => by cases hh.symm.trans (H.new 7 3 (by kernel_rfl))), fun _ => trivial⟩
    · intro ρ W1 hb1 H d hd
      have hd' : (some 7 : Option Tmp) = some d := hd
      injection hd' with hd'
      subst hd'
      exact ⟨(fun hh => by cases hh.symm.trans (H.new 7 3 (by kernel_rfl))), fun _ => trivial⟩
    · intro ρ W1 hb1 H d hd
      have hd' : (some 7 : Option Tmp) = some d := hd
      injection hd' with hd'
      subst hd'
      exact ⟨(fun hh => by cases hh.symm.trans (H.new 7 3 (by kernel_rfl))), fun _ => trivial⟩
    · intro ρ W1 hb1 H d hd
      have hd' : (some 7 : Option Tmp) = some d := hd
      injection hd' with hd'
      subst hd'
      exact ⟨(fun hh => by cases hh.symm.trans (H.new 7 3 (by kernel_rfl))), fun _ => trivial⟩
    · intro ρ W1 hb1 H d hd
      have hd' : (some 7 : Option Tmp) = some d := hd
      injection hd' with hd'
      subst hd'
      exact ⟨(fun hh => by cases hh.symm.trans (H.new 7 3 (by kernel_rfl))), fun _ => trivial⟩
    · intro ρ W1 hb1 H d hd
      have hd' : (some 7 : Option Tmp) = some d := hd
      injection hd' with hd'
      subst hd'
      exact ⟨(fun hh => by cases hh.symm.trans (H.new 7 3 (by kernel_rfl))), fun _ => trivial⟩
    · intro ρ W1 hb1 H d hd
      have hd' : (some 7 : Option Tmp) = some d := hd
      injection hd' with hd'
      subst hd'
      exact ⟨(fun hh => by cases hh.symm.trans (H.new 7 3 (by kernel_rfl))), fun _ => trivial⟩
    · intro ρ W1 hb1 H d hd
      have hd' : (some 7 : Option Tmp) = some d := hd
      injection hd' with hd'
      subst hd'
      exact ⟨(fun hh => by cases hh.symm.trans (H.new 7 3 (by kernel_rfl))), fun _ => trivial⟩
    · intro ρ W1 hb1 H
      exact gives_pick_t rfl (H.new 7 3 (by kernel_rfl)) (H.const _) ⟨rfl, Below.refl _ _⟩
    · intro vs W1 hb1 hfs
      have f14 : vs 14 = .bool true := hfs 14 (by decide)
      clear hfs
      simp only [putAll, Nat.zero_add, Nat.reduceAdd]
      generalize vs 0 = z0
      generalize vs 1 = z1
      generalize vs 2 = z2
      generalize vs 3 = z3
      generalize vs 4 = z4
      generalize vs 5 = z5
      generalize vs 6 = z6
      generalize vs 7 = z7
      generalize vs 8 = z8
      generalize vs 9 = z9
      generalize vs 10 = z10
      generalize vs 11 = z11
      generalize vs 12 = z12
      generalize vs 13 = z13
      simp only [f14, Act.put, List.setIfInBounds_toArray, List.set_cons_succ, List.set_cons_zero]
      clear f14
      go_wp2
      go_ret2
      rw [HC.out]
      exact RetE.nil _ hb1
  · have H4 := Lib.hid (decide_eq_false (show ¬ (l.length : Int) < 4 by omega))
    obtain ⟨k, hk⟩ : ∃ k, k = l.length - 4 := ⟨_, rfl⟩
    obtain ⟨n, hn⟩ : ∃ n, n = l.length := ⟨_, rfl⟩
    have hci : (c : Int) ≤ 9223372036854775807 := by unfold maxLen at hcm; omega
    have hkl : (l.take k).length = k := by rw [List.length_take]; omega
    have hml : ((l.take k).map bv).length = k := by rw [List.length_map]; exact hkl
    have hAk : A = none → k = 0 := fun h => by have := hA h; omega
    have hIk : IsB (l.take k) (.slice A k c) w := ⟨A, c, by rw [hkl], fun h => by have := hA h; omega, by omega, hcm, by rw [List.map_take]; exact hlies.take k⟩
    have hlk : Lies w A ((l.take k).map bv) := by rw [List.map_take]; exact hlies.take k
    have HLK := Lib.hid hlk
    have HI := Lib.hid hIk
    have HKL := Lib.hid hkl
    have HML := Lib.hid hml
    have HKI := Lib.hid (show (n : Int) - 4 = (k : Int) by omega)
    rw [← hn] at h4 hlen hk hnc hA H4 HL ⊢
    have hkn : k ≤ n := by omega
    have HN := Lib.hid hn
    have HK := Lib.hid hk
    clear hk hlies hIk hcm hkl hml hlk hn
    by_cases hq : cseal (l.take k) = l
    · have hyes : copens l = (l.take k, 0) := by
        have h1 := HN.out
        have := copens_yes (l := l) (by omega) (by rw [← h1, ← HK.out]; exact hq)
        rwa [← h1, ← HK.out] at this
      have HC := Lib.hid hyes
      have HQ : Hid ((cseal (l.take k) == l) = true) := Lib.hid (by rw [beq_iff_eq]; exact hq)
      clear hyes hq
      go_enter Try.func14, Try.ntmps14
      go_wp2
      refine wp_region_list [.is (.slice A n c), .is (.int .i64 (n : Int)), .is (.bool false), .is (.bool false), .is (.slice A n c), .is (.slice A n c), .is (.int .i64 (n : Int)), .is (.int .i64 (k : Int)), .is (.slice A k c), .bytes (cseal (l.take k)), .is (.string ⟨(cseal (l.take k)).toArray⟩), .is (.slice A n c), .is (.string ⟨(l).toArray⟩), .is (.bool false), .is (.bool false)] [some 4, some 5, some 6, some 7, some 8, some 9, some 10, some 11, some 12, some 13, some 14, some 15, some 16, some 17, some 18] (by kernel_rfl) (by kernel_rfl) (by kernel_rfl) rfl ⟨?_, ?_, ?_, ?_, ?_, ?_, ?_, ?_, ?_, ?_, ?_, ?_, ?_, ?_, ?_, trivial⟩ ?_
      · intro ρ W1 hb1 H
        exact gives_move rfl (H.old 0 _ (by kernel_rfl) rfl) ⟨rfl, Below.refl _ _⟩
      · intro ρ W1 hb1 H
        exact gives_len Try.underlying22 rfl (H.new 4 0 (by kernel_rfl)) ⟨rfl, Below.refl _ _⟩
      · intro ρ W1 hb1 H
        exact gives_lt rfl (H.new 5 1 (by kernel_rfl)) (H.const _) ⟨by rw [H4.out]; rfl, Below.refl _ _⟩
      · intro ρ W1 hb1 H
        exact gives_move rfl (H.new 6 2 (by kernel_rfl)) ⟨rfl, Below.refl _ _⟩
      · intro ρ W1 hb1 H d hd
        have hd' : (some 7 : Option Tmp) = some d := hd
        injection hd' with hd'
        subst hd'
        refine ⟨fun _ => ?_, fun hne => absurd (H.new 7 3 (by kernel_rfl)) hne⟩
        exact gives_move rfl (H.old 0 _ (by kernel_rfl) rfl) ⟨rfl, Below.refl _ _⟩
      · intro ρ W1 hb1 H d hd
        have hd' : (some 7 : Option Tmp) = some d := hd
        injection hd' with hd'
        subst hd'
        refine ⟨fun _ => ?_, fun hne => absurd (H.new 7 3 (by kernel_rfl)) hne⟩
        exact gives_move rfl (H.old 0 _ (by kernel_rfl) rfl) ⟨rfl, Below.refl _ _⟩
      · intro ρ W1 hb1 H d hd
        have hd' : (some 7 : Option Tmp) = some d := hd
        injection hd' with hd'
        subst hd'
        refine ⟨fun _ => ?_, fun hne => absurd (H.new 7 3 (by kernel_rfl)) hne⟩
        exact gives_len Try.underlying22 rfl (H.new 9 5 (by kernel_rfl)) ⟨rfl, Below.refl _ _⟩
      · intro ρ W1 hb1 H d hd
        have hd' : (some 7 : Option Tmp) = some d := hd
        injection hd' with hd'
        subst hd'
        refine ⟨fun _ => ?_, fun hne => absurd (H.new 7 3 (by kernel_rfl)) hne⟩
        exact gives_sub rfl (H.new 10 6 (by kernel_rfl)) (H.const _) (by omega) (by omega) ⟨by rw [HKI.out]; rfl, Below.refl _ _⟩
      · intro ρ W1 hb1 H d hd
        have hd' : (some 7 : Option Tmp) = some d := hd
        injection hd' with hd'
        subst hd'
        refine ⟨fun _ => ?_, fun hne => absurd (H.new 7 3 (by kernel_rfl)) hne⟩
        exact gives_upto elemB rfl (H.new 8 4 (by kernel_rfl)) (H.new 11 7 (by kernel_rfl)) (by omega) ⟨rfl, Below.refl _ _⟩
      · intro ρ W1 hb1 H d hd
        have hd' : (some 7 : Option Tmp) = some d := hd
        injection hd' with hd'
        subst hd'
        refine ⟨fun _ => ?_, fun hne => absurd (H.new 7 3 (by kernel_rfl)) hne⟩
        have e0 : ρ (.tmp 12) = .slice A k c := H.new 12 8 (by kernel_rfl)
        refine gives_call rfl (fun _ _ => by kernel_rfl) (H.func _) (args := #[.slice A k c]) (by simp [e0]) ?_
        exact (rseal_any _ _ _ (HI.out.below hb1) (by have := HKL.out; omega)).mono fun _ _ h => h.isB
      · intro ρ W1 hb1 H d hd
        have hd' : (some 7 : Option Tmp) = some d := hd
        injection hd' with hd'
        subst hd'
        refine ⟨fun _ => ?_, fun hne => absurd (H.new 7 3 (by kernel_rfl)) hne⟩
        have hB : IsB (cseal (l.take k)) (ρ (.tmp 13)) W1 := H.new 13 9 (by kernel_rfl)
        exact gives_convert rfl rfl (hB.text _ _ _ Try.underlying22 Try.underlying5 Try.underlying9) ⟨rfl, Below.refl _ _⟩
      · intro ρ W1 hb1 H d hd
        have hd' : (some 7 : Option Tmp) = some d := hd
        injection hd' with hd'
        subst hd'
        refine ⟨fun _ => ?_, fun hne => absurd (H.new 7 3 (by kernel_rfl)) hne⟩
        exact gives_move rfl (H.old 0 _ (by kernel_rfl) rfl) ⟨rfl, Below.refl _ _⟩
      · intro ρ W1 hb1 H d hd
        have hd' : (some 7 : Option Tmp) = some d := hd
        injection hd' with hd'
        subst hd'
        refine ⟨fun _ => ?_, fun hne => absurd (H.new 7 3 (by kernel_rfl)) hne⟩
        exact gives_convert rfl (H.new 15 11 (by kernel_rfl)) (textB (HL.out.below hb1)) ⟨rfl, Below.refl _ _⟩
      · intro ρ W1 hb1 H d hd
        have hd' : (some 7 : Option Tmp) = some d := hd
        injection hd' with hd'
        subst hd'
        refine ⟨fun _ => ?_, fun hne => absurd (H.new 7 3 (by kernel_rfl)) hne⟩
        exact gives_textne (a := cseal (l.take k)) (b := l) rfl (H.new 14 10 (by kernel_rfl)) (H.new 16 12 (by kernel_rfl)) ⟨by rw [HQ.out]; rfl, Below.refl _ _⟩
      · intro ρ W1 hb1 H
        exact gives_pick_f rfl (H.new 7 3 (by kernel_rfl)) (H.new 17 13 (by kernel_rfl)) ⟨rfl, Below.refl _ _⟩
      · intro vs W1 hb1 hfs
        have f14 : vs 14 = .bool false := hfs 14 (by decide)
        clear hfs
        simp only [putAll, Nat.zero_add, Nat.reduceAdd]
        generalize vs 0 = z0
        generalize vs 1 = z1
        generalize vs 2 = z2
        generalize vs 3 = z3
        generalize vs 4 = z4
        generalize vs 5 = z5
        generalize vs 6 = z6
        generalize vs 7 = z7
        generalize vs 8 = z8
        generalize vs 9 = z9
        generalize vs 10 = z10
        generalize vs 11 = z11
        generalize vs 12 = z12
        generalize vs 13 = z13
        simp only [f14, Act.put, List.setIfInBounds_toArray, List.set_cons_succ, List.set_cons_zero]
        clear f14
        have hown0 : (W1.alloc (.cells #[] 5)).ownsRow w.heap.size 5 1 (.slice (some ⟨W1.heap.size, 0, none⟩) 0 0) 0 [] := World.ownsRow_made W1 #[] 0 hb1.size (by unfold maxLen; omega) (by simp)
        have hbA : Below w.heap.size w (W1.alloc (.cells #[] 5)) := hb1.alloc hb1.size _
        have hkw : IntKind.i64.wrap ((n : Int) - 4) = (k : Int) := by rw [HKI.out]; exact IntWalk.i64_in _ (by omega)
        have hki := HKI.out
        have hl4 := HLK.out.below hbA
        have hml := HML.out
        have HML' := Lib.hid hml
        clear hml
        have hz := hbA.size
        go_wp2_with (at_builtin; refine wpList_join elemB rfl _ _ rfl w.heap.size _ _ _ _ _ _ ((l.take k).map bv) w rfl rfl hAk HML'.out hl4 (bv_one _) hown0 hbA hz (by omega) (by omega) ?_)
        intro v5 w5 hown5 hb5 _ _
        have hown6 : w5.ownsRow w.heap.size 5 1 v5 k ((l.take k).map bv) := by rw [List.map_take]; simpa using hown5
        clear hown5 hown0 hbA hl4 hz hki hkw
        go_wp2
        go_ret2
        rw [HC.out]
        exact ⟨_, rfl, isB_own hown6, hb5⟩
    · have hno : copens l = ([], 2) := by
        have h1 := HN.out
        exact copens_no (by rw [← h1, ← HK.out]; exact hq)
      have HC := Lib.hid hno
      have HQ : Hid ((cseal (l.take k) == l) = false) := Lib.hid (by rw [beq_eq_false_iff_ne]; exact hq)
      clear hno hq
      go_enter Try.func14, Try.ntmps14
      go_wp2
      refine wp_region_list [.is (.slice A n c), .is (.int .i64 (n : Int)), .is (.bool false), .is (.bool false), .is (.slice A n c), .is (.slice A n c), .is (.int .i64 (n : Int)), .is (.int .i64 (k : Int)), .is (.slice A k c), .bytes (cseal (l.take k)), .is (.string ⟨(cseal (l.take k)).toArray⟩), .is (.slice A n c), .is (.string ⟨(l).toArray⟩), .is (.bool true), .is (.bool true)] [some 4, some 5, some 6, some 7, some 8, some 9, some 10, some 11, some 12, some 13, some 14, some 15, some 16, some 17, some 18] (by kernel_rfl) (by kernel_rfl) (by kernel_rfl) rfl ⟨?_, ?_, ?_, ?_, ?_, ?_, ?_, ?_, ?_, ?_, ?_, ?_, ?_, ?_, ?_, trivial⟩ ?_
      · intro ρ W1 hb1 H
        exact gives_move rfl (H.old 0 _ (by kernel_rfl) rfl) ⟨rfl, Below.refl _ _⟩
      · intro ρ W1 hb1 H
        exact gives_len Try.underlying22 rfl (H.new 4 0 (by kernel_rfl)) ⟨rfl, Below.refl _ _⟩
      · intro ρ W1 hb1 H
        exact gives_lt rfl (H.new 5 1 (by kernel_rfl)) (H.const _) ⟨by rw [H4.out]; rfl, Below.refl _ _⟩
      · intro ρ W1 hb1 H
        exact gives_move rfl (H.new 6 2 (by kernel_rfl)) ⟨rfl, Below.refl _ _⟩
      · intro ρ W1 hb1 H d hd
        have hd' : (some 7 : Option Tmp) = some d := hd
        injection hd' with hd'
        subst hd'
        refine ⟨fun _ => ?_, fun hne => absurd (H.new 7 3 (by kernel_rfl)) hne⟩
        exact gives_move rfl (H.old 0 _ (by kernel_rfl) rfl) ⟨rfl, Below.refl _ _⟩
      · intro ρ W1 hb1 H d hd
        have hd' : (some 7 : Option Tmp) = some d := hd
        injection hd' with hd'
        subst hd'
        refine ⟨fun _ => ?_, fun hne => absurd (H.new 7 3 (by kernel_rfl)) hne⟩
        exact gives_move rfl (H.old 0 _ (by kernel_rfl) rfl) ⟨rfl, Below.refl _ _⟩
      · intro ρ W1 hb1 H d hd
        have hd' : (some 7 : Option Tmp) = some d := hd
        injection hd' with hd'
        subst hd'
        refine ⟨fun _ => ?_, fun hne => absurd (H.new 7 3 (by kernel_rfl)) hne⟩
        exact gives_len Try.underlying22 rfl (H.new 9 5 (by kernel_rfl)) ⟨rfl, Below.refl _ _⟩
      · intro ρ W1 hb1 H d hd
        have hd' : (some 7 : Option Tmp) = some d := hd
        injection hd' with hd'
        subst hd'
        refine ⟨fun _ => ?_, fun hne => absurd (H.new 7 3 (by kernel_rfl)) hne⟩
        exact gives_sub rfl (H.new 10 6 (by kernel_rfl)) (H.const _) (by omega) (by omega) ⟨by rw [HKI.out]; rfl, Below.refl _ _⟩
      · intro ρ W1 hb1 H d hd
        have hd' : (some 7 : Option Tmp) = some d := hd
        injection hd' with hd'
        subst hd'
        refine ⟨fun _ => ?_, fun hne => absurd (H.new 7 3 (by kernel_rfl)) hne⟩
        exact gives_upto elemB rfl (H.new 8 4 (by kernel_rfl)) (H.new 11 7 (by kernel_rfl)) (by omega) ⟨rfl, Below.refl _ _⟩
      · intro ρ W1 hb1 H d hd
        have hd' : (some 7 : Option Tmp) = some d := hd
        injection hd' with hd'
        subst hd'
        refine ⟨fun _ => ?_, fun hne => absurd (H.new 7 3 (by kernel_rfl)) hne⟩
        have e0 : ρ (.tmp 12) = .slice A k c := H.new 12 8 (by kernel_rfl)
        refine gives_call rfl (fun _ _ => by kernel_rfl) (H.func _) (args := #[.slice A k c]) (by simp [e0]) ?_
        exact (rseal_any _ _ _ (HI.out.below hb1) (by have := HKL.out; omega)).mono fun _ _ h => h.isB
      · intro ρ W1 hb1 H d hd
        have hd' : (some 7 : Option Tmp) = some d := hd
        injection hd' with hd'
        subst hd'
        refine ⟨fun _ => ?_, fun hne => absurd (H.new 7 3 (by kernel_rfl)) hne⟩
        have hB : IsB (cseal (l.take k)) (ρ (.tmp 13)) W1 := H.new 13 9 (by kernel_rfl)
        exact gives_convert rfl rfl (hB.text _ _ _ Try.underlying22 Try.underlying5 Try.underlying9) ⟨rfl, Below.refl _ _⟩
      · intro ρ W1 hb1 H d hd
        have hd' : (some 7 : Option Tmp) = some d := hd
        injection hd' with hd'
        subst hd'
        refine ⟨fun _ => ?_, fun hne => absurd (H.new 7 3 (by kernel_rfl)) hne⟩
        exact gives_move rfl (H.old 0 _ (by kernel_rfl) rfl) ⟨rfl, Below.refl _ _⟩
      · intro ρ W1 hb1 H d hd
        have hd' : (some 7 : Option Tmp) = some d := hd
        injection hd' with hd'
        subst hd'
        refine ⟨fun _ => ?_, fun hne => absurd (H.new 7 3 (by kernel_rfl)) hne⟩
        exact gives_convert rfl (H.new 15 11 (by kernel_rfl)) (textB (HL.out.below hb1)) ⟨rfl, Below.refl _ _⟩
      · intro ρ W1 hb1 H d hd
        have hd' : (some 7 : Option Tmp) = some d := hd
        injection hd' with hd'
        subst hd'
        refine ⟨fun _ => ?_, fun hne => absurd (H.new 7 3 (by kernel_rfl)) hne⟩
        exact gives_textne (a := cseal (l.take k)) (b := l) rfl (H.new 14 10 (by kernel_rfl)) (H.new 16 12 (by kernel_rfl)) ⟨by rw [HQ.out]; rfl, Below.refl _ _⟩
      · intro ρ W1 hb1 H
        exact gives_pick_f rfl (H.new 7 3 (by kernel_rfl)) (H.new 17 13 (by kernel_rfl)) ⟨rfl, Below.refl _ _⟩
      · intro vs W1 hb1 hfs
        have f14 : vs 14 = .bool true := hfs 14 (by decide)
        clear hfs
        simp only [putAll, Nat.zero_add, Nat.reduceAdd]
        generalize vs 0 = z0
        generalize vs 1 = z1
        generalize vs 2 = z2
        generalize vs 3 = z3
        generalize vs 4 = z4
        generalize vs 5 = z5
        generalize vs 6 = z6
        generalize vs 7 = z7
        generalize vs 8 = z8
        generalize vs 9 = z9
        generalize vs 10 = z10
        generalize vs 11 = z11
        generalize vs 12 = z12
        generalize vs 13 = z13
        simp only [f14, Act.put, List.setIfInBounds_toArray, List.set_cons_succ, List.set_cons_zero]
        clear f14
        go_wp2
        go_ret2
        rw [HC.out]
        exact RetE.nil _ hb1
end Go.Proofs.Ytmmebnfahcpggaa
