
/- The program's contracts of layer 12. -/

import Derived.Test.YtljepanilfbjgaaKMayO

import Derived.Test.YtljepanilfbjgaaKCmpO

import Derived.Test.YtljepanilfbjgaaKSchemaO

namespace Go.Proofs.Ytljepanilfbjgaa

open Go.RowKit

set_option maxRecDepth 100000 in
theorem ksame_any (a b : CV) (w : World) (_ha : a.inInt) (_hb : b.inInt) (_hs : a.s.size ≤ maxLen) (_hs' : b.s.size ≤ maxLen) : Calls Try.prog 8 #[cv a, cv b] w fun e w' => e = .returned (.bool (kcmp a b == 0)) ∧ Below w.heap.size w w' := by
  have HC := Lib.hid (fun W => kcmp_own a b W)
  obtain ⟨an, ai, as_⟩ := a
  obtain ⟨bn, bi, bs⟩ := b
  obtain ⟨t, ht⟩ : ∃ t, t = kcmp ⟨an, ai, as_⟩ ⟨bn, bi, bs⟩ := ⟨_, rfl⟩
  rw [← ht] at HC
  rw [← ht]
  clear ht
  unfold cv at *
  dsimp only at HC
  have hA : Row ((w.alloc (.cells #[.bool an, .int .i64 ai, .string as_] 23)).alloc (.cells #[.bool bn, .int .i64 bi, .string bs] 23)) w.heap.size 23 [.bool an, .int .i64 ai, .string as_] := (show Row (w.alloc _) _ _ _ from heap_alloc_new w _).alloc _
  have hB : Row ((w.alloc (.cells #[.bool an, .int .i64 ai, .string as_] 23)).alloc (.cells #[.bool bn, .int .i64 bi, .string bs] 23)) (w.heap.size + 1) 23 [.bool bn, .int .i64 bi, .string bs] := by
    have h := heap_alloc_new (w.alloc (.cells #[.bool an, .int .i64 ai, .string as_] 23)) (.cells #[.bool bn, .int .i64 bi, .string bs] 23)
    rw [show (w.alloc (.cells #[.bool an, .int .i64 ai, .string as_] 23)).heap.size = w.heap.size + 1 by simp] at h
    exact h
  have HBE := Lib.hid (show Below w.heap.size w ((w.alloc (.cells #[.bool an, .int .i64 ai, .string as_] 23)).alloc (.cells #[.bool bn, .int .i64 bi, .string bs] 23)) from ((Below.refl _ _).alloc (Nat.le_refl _) _).alloc (by simp) _)
  have a0 := hA.cell 0
  have a1 := hA.cell 1
  have a2 := hA.cell 2
  have b0 := hB.cell 0
  have b1 := hB.cell 1
  have b2 := hB.cell 2
  clear hA hB
  go_enter Try.func8, Try.ntmps8
  go_wp2_with fail
  refine (HC.out _).mono ?_
  rintro e w2 ⟨rfl, hb2⟩
  have HB2 := Lib.hid (below_then HBE.out hb2)
  clear hb2
  go_wp2
  go_ret
  exact ⟨rfl, HB2.out⟩
end Go.Proofs.Ytljepanilfbjgaa
