
/- Contracts of layer 12's reference. -/

import Derived.Test.YtljepanilfbjgaaKPlain

import Derived.Test.YtljepanilfbjgaaStr

import Derived.Test.YtljepanilfbjgaaCom

namespace Go.Proofs.Ytljepanilfbjgaa

open Go.RowKit

def kcells (v : CV) : List Value := [.bool v.null, .int .i64 v.n, .string v.s]
/-- A column: its name, its kind. -/
structure CC where
  s : ByteArray
  kind : Int
def ccells (x : CC) : List Value := [.string x.s, .int .i64 x.kind]
theorem kcmp_of (an bn : Bool) (ai bi : Int) (as_ bs : ByteArray) : kcmp ⟨an, ai, as_⟩ ⟨bn, bi, bs⟩ = if (!an == bn) = true then (if an = true then -1 else 1) else if (ai != bi) = true then (if decide (ai < bi) = true then -1 else 1) else if (!as_.toList == bs.toList) = true then (if Op.bytesLess as_.toList bs.toList = true then -1 else 1) else 0 := by
  by_cases g1 : an = bn
  · subst g1
    by_cases g2 : ai = bi
    · subst g2
      by_cases g3 : as_ = bs
      · subst g3; rw [kcmp_self]; simp
      · have h2 : ¬ as_.toList = bs.toList := by
          rw [ByteArray.toList_eq, ByteArray.toList_eq]
          exact fun h2 => g3 (bytes_ext h2)
        rw [kcmp_s (a := ⟨an, ai, as_⟩) (b := ⟨an, ai, bs⟩) rfl rfl g3]
        simp [h2, sless]
        rfl
    · rw [kcmp_n (a := ⟨an, ai, as_⟩) (b := ⟨an, bi, bs⟩) rfl g2]
      simp [g2]
  · rw [kcmp_null (a := ⟨an, ai, as_⟩) (b := ⟨bn, bi, bs⟩) g1]
    simp [g1]
theorem cv_eq (v : CV) : cv v = .agg (kcells v).toArray := rfl
set_option maxHeartbeats 1000000 in
set_option maxRecDepth 100000 in
theorem rcmp12_any (a b : CV) (w : World) : Calls Try.prog 7 #[cv a, cv b] w fun e w' => e = .returned (.int .i64 (kcmp a b)) ∧ Below w.heap.size w w' := by
  obtain ⟨an, ai, as_⟩ := a
  obtain ⟨bn, bi, bs⟩ := b
  have hA : Row ((w.alloc (.cells #[.bool an, .int .i64 ai, .string as_] 23)).alloc (.cells #[.bool bn, .int .i64 bi, .string bs] 23)) w.heap.size 23 [.bool an, .int .i64 ai, .string as_] := (show Row (w.alloc _) _ _ _ from heap_alloc_new w _).alloc _
  have hB : Row ((w.alloc (.cells #[.bool an, .int .i64 ai, .string as_] 23)).alloc (.cells #[.bool bn, .int .i64 bi, .string bs] 23)) (w.heap.size + 1) 23 [.bool bn, .int .i64 bi, .string bs] := by
    have h := heap_alloc_new (w.alloc (.cells #[.bool an, .int .i64 ai, .string as_] 23)) (.cells #[.bool bn, .int .i64 bi, .string bs] 23)
    rw [show (w.alloc (.cells #[.bool an, .int .i64 ai, .string as_] 23)).heap.size = w.heap.size + 1 by simp] at h
    exact h
  have hb : Below w.heap.size w ((w.alloc (.cells #[.bool an, .int .i64 ai, .string as_] 23)).alloc (.cells #[.bool bn, .int .i64 bi, .string bs] 23)) := ((Below.refl _ _).alloc (Nat.le_refl _) _).alloc (by simp) _
  have HBE := Lib.hid hb
  have a0 := hA.cell 0
  have a1 := hA.cell 1
  have a2 := hA.cell 2
  have b0 := hB.cell 0
  have b1 := hB.cell 1
  have b2 := hB.cell 2
  clear hA hB hb
  unfold cv
  cases h0 : (!an == bn)
  · cases h1 : (ai != bi)
    · cases h2 : (!as_.toList == bs.toList)
      · have HK := Lib.hid (kcmp_of an bn ai bi as_ bs)
        rw [h0, h1, h2] at HK
        go_enter Try.func7, Try.ntmps7
        go_wp2
        go_ret
        exact ⟨by rw [HK.out]; rfl, HBE.out⟩
      · cases h3 : Op.bytesLess as_.toList bs.toList
        · have HK := Lib.hid (kcmp_of an bn ai bi as_ bs)
          rw [h0, h1, h2, h3] at HK
          go_enter Try.func7, Try.ntmps7
          go_wp2
          go_ret
          exact ⟨by rw [HK.out]; rfl, HBE.out⟩
        · have HK := Lib.hid (kcmp_of an bn ai bi as_ bs)
          rw [h0, h1, h2, h3] at HK
          go_enter Try.func7, Try.ntmps7
          go_wp2
          go_ret
          exact ⟨by rw [HK.out]; rfl, HBE.out⟩
    · cases h3 : decide (ai < bi)
      · have HK := Lib.hid (kcmp_of an bn ai bi as_ bs)
        rw [h0, h1, h3] at HK
        go_enter Try.func7, Try.ntmps7
        go_wp2
        go_ret
        exact ⟨by rw [HK.out]; rfl, HBE.out⟩
      · have HK := Lib.hid (kcmp_of an bn ai bi as_ bs)
        rw [h0, h1, h3] at HK
        go_enter Try.func7, Try.ntmps7
        go_wp2
        go_ret
        exact ⟨by rw [HK.out]; rfl, HBE.out⟩
  · cases an
    · cases bn
      · simp at h0
      · have HK := Lib.hid (kcmp_of false true ai bi as_ bs)
        rw [h0] at HK
        clear h0
        go_enter Try.func7, Try.ntmps7
        go_wp2
        go_ret
        exact ⟨by rw [HK.out]; rfl, HBE.out⟩
    · cases bn
      · have HK := Lib.hid (kcmp_of true false ai bi as_ bs)
        rw [h0] at HK
        clear h0
        go_enter Try.func7, Try.ntmps7
        go_wp2
        go_ret
        exact ⟨by rw [HK.out]; rfl, HBE.out⟩
      · simp at h0
end Go.Proofs.Ytljepanilfbjgaa
