
/- Contracts of layer 12's reference. -/

import Derived.Test.YtocodcceimeiiaaKPlain

import Derived.Test.YtocodcceimeiiaaStr

import Derived.Test.YtocodcceimeiiaaCom

namespace Go.Proofs.Ytocodcceimeiiaa

open Go.RowKit

def kcells (v : CV) : List Value := [.bool v.null, .int .i64 v.n, .string v.s]
/-- A column: its name, its kind. -/
structure CC where
  s : ByteArray
  kind : Int
def ccells (x : CC) : List Value := [.string x.s, .int .i64 x.kind]
theorem kcmp_of (an bn : Bool) (ai bi : Int) (as_ bs : ByteArray) : kcmp ⟨an, ai, as_⟩ ⟨bn, bi, bs⟩ = if (!an == bn) = true then (if an = true then -1 else 1) else if (ai != bi) = true then (if decide (ai < bi) = true then -1 else 1) else if (!as_.toList == bs.toList) = true then (if Op.bytesLess as_.toList bs.toList = true then -1 else 1) else 0 := by
  by_cases g1 : an = bn
  · subst g1
    by_cases g2 : ai = bi
    · subst g2
      by_cases g3 : as_ = bs
      · subst g3; rw [kcmp_self]; simp
      · have h2 : ¬ as_.toList = bs.toList := by
          rw [ByteArray.toList_eq, ByteArray.toList_eq]
          exact fun h2 => g3 (bytes_ext h2)
        rw [kcmp_s (a := ⟨an, ai, as_⟩) (b := ⟨an, ai, bs⟩) rfl rfl g3]
        simp [h2, sless]
        rfl
    · rw [kcmp_n (a := ⟨an, ai, as_⟩) (b := ⟨an, bi, bs⟩) rfl g2]
      simp [g2]
  · rw [kcmp_null (a := ⟨an, ai, as_⟩) (b := ⟨bn, bi, bs⟩) g1]
    simp [g1]
theorem cv_eq (v : CV) : cv v = .agg (kcells v).toArray := rfl
end Go.Proofs.Ytocodcceimeiiaa
