
/- The program's contracts of layer 12: Compare, Same. -/

import Derived.Test.YtljepanilfbjgaaDoorKLib

import Derived.Test.YtljepanilfbjgaaDoorKRef

namespace Go.Proofs.YtljepanilfbjgaaDoor

open Go.RowKit

set_option maxHeartbeats 1000000 in
set_option maxRecDepth 100000 in
theorem kcmp_own (a b : CV) (w : World) : Calls Tryd.prog 14 #[cv a, cv b] w fun e w' => e = .returned (.int .i64 (kcmp a b)) ∧ Below w.heap.size w w' := by
  obtain ⟨an, ai, as_⟩ := a
  obtain ⟨bn, bi, bs⟩ := b
  have hA : Row ((w.alloc (.cells #[.bool an, .int .i64 ai, .string as_] 23)).alloc (.cells #[.bool bn, .int .i64 bi, .string bs] 23)) w.heap.size 23 [.bool an, .int .i64 ai, .string as_] := (show Row (w.alloc _) _ _ _ from heap_alloc_new w _).alloc _
  have hB : Row ((w.alloc (.cells #[.bool an, .int .i64 ai, .string as_] 23)).alloc (.cells #[.bool bn, .int .i64 bi, .string bs] 23)) (w.heap.size + 1) 23 [.bool bn, .int .i64 bi, .string bs] := by
    have h := heap_alloc_new (w.alloc (.cells #[.bool an, .int .i64 ai, .string as_] 23)) (.cells #[.bool bn, .int .i64 bi, .string bs] 23)
    rw [show (w.alloc (.cells #[.bool an, .int .i64 ai, .string as_] 23)).heap.size = w.heap.size + 1 by simp] at h
    exact h
  have hb : Below w.heap.size w ((w.alloc (.cells #[.bool an, .int .i64 ai, .string as_] 23)).alloc (.cells #[.bool bn, .int .i64 bi, .string bs] 23)) := ((Below.refl _ _).alloc (Nat.le_refl _) _).alloc (by simp) _
  have HBE := Lib.hid hb
  have a0 := hA.cell 0
  have a1 := hA.cell 1
  have a2 := hA.cell 2
  have b0 := hB.cell 0
  have b1 := hB.cell 1
  have b2 := hB.cell 2
  clear hA hB hb
  unfold cv
  cases h0 : (!an == bn)
  · obtain rfl : an = bn := by cases an <;> cases bn <;> simp_all
    by_cases h1 : ai = bi
    · subst h1
      have HC := Lib.hid (fun W => lcompareI_any ai ai W)
      rw [show Lib.compareInt ai ai = 0 by unfold Lib.compareInt; simp] at HC
      obtain ⟨t, ht⟩ : ∃ t, t = Lib.compareBytes as_.data.toList bs.data.toList := ⟨_, rfl⟩
      have HS := Lib.hid (fun W => lcompareS_any as_ bs W)
      rw [← ht] at HS
      have hk : kcmp ⟨an, ai, as_⟩ ⟨an, ai, bs⟩ = t := by
        rw [ht, compareBytes_sless]
        by_cases h3 : as_ = bs
        · subst h3; rw [kcmp_self, if_pos rfl]
        · rw [kcmp_s (a := ⟨an, ai, as_⟩) (b := ⟨an, ai, bs⟩) rfl rfl h3, if_neg h3]
      have HK := Lib.hid hk
      clear hk ht
      go_enter Tryd.func14, Tryd.ntmps14
      go_wp2_with (go_at_call 21; refine (HC.out _).mono ?_)
      rintro e w' ⟨rfl, rfl⟩
      go_wp2_with (go_at_call 22; refine (HS.out _).mono ?_)
      rintro e w' ⟨rfl, rfl⟩
      go_wp2
      go_ret
      exact ⟨by rw [HK.out]; rfl, HBE.out⟩
    · obtain ⟨t, ht, hk, htn⟩ : ∃ t, Lib.compareInt ai bi = t ∧ kcmp ⟨an, ai, as_⟩ ⟨an, bi, bs⟩ = t ∧ (t = -1 ∨ t = 1) := by
        rw [kcmp_n (a := ⟨an, ai, as_⟩) (b := ⟨an, bi, bs⟩) rfl h1]
        unfold Lib.compareInt
        by_cases h2 : ai < bi
        · exact ⟨-1, if_pos h2, if_pos h2, .inl rfl⟩
        · exact ⟨1, by rw [if_neg h2, if_pos (by omega)], if_neg h2, .inr rfl⟩
      have HC := Lib.hid (fun W => lcompareI_any ai bi W)
      rw [ht] at HC
      have HK := Lib.hid hk
      clear ht hk h1
      rcases htn with rfl | rfl
      all_goals
        go_enter Tryd.func14, Tryd.ntmps14
        go_wp2_with (go_at_call 21; refine (HC.out _).mono ?_)
        rintro e w' ⟨rfl, rfl⟩
        go_wp2
        go_ret
        exact ⟨by rw [HK.out]; rfl, HBE.out⟩
  · cases an
    · cases bn
      · simp at h0
      · have HK := Lib.hid (kcmp_of false true ai bi as_ bs)
        rw [h0] at HK
        clear h0
        go_enter Tryd.func14, Tryd.ntmps14
        go_wp2
        go_ret
        exact ⟨by rw [HK.out]; rfl, HBE.out⟩
    · cases bn
      · have HK := Lib.hid (kcmp_of true false ai bi as_ bs)
        rw [h0] at HK
        clear h0
        go_enter Tryd.func14, Tryd.ntmps14
        go_wp2
        go_ret
        exact ⟨by rw [HK.out]; rfl, HBE.out⟩
      · simp at h0
theorem kcmp_any (a b : CV) (w : World) (_ha : a.inInt) (_hb : b.inInt) (_hs : a.s.size ≤ maxLen) (_hs' : b.s.size ≤ maxLen) : Calls Tryd.prog 14 #[cv a, cv b] w fun e w' => e = .returned (.int .i64 (kcmp a b)) ∧ Below w.heap.size w w' := kcmp_own a b w
end Go.Proofs.YtljepanilfbjgaaDoor
