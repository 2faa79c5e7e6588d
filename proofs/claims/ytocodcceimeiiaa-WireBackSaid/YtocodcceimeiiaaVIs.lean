
/- The contracts of varint and of its reference, said of opaque values that hold bytes. -/

import Derived.Test.YtocodcceimeiiaaInt

namespace Go.Proofs.Ytocodcceimeiiaa

open Go.RowKit

def TakenN (o : Option (Int × List UInt8)) : Int := match o with | none => 0 | some p => p.1
def TakenR (o : Option (Int × List UInt8)) : List UInt8 := match o with | none => [] | some p => p.2
def TakenE (o : Option (Int × List UInt8)) : Int := match o with | none => 2 | some _ => 0
theorem RetT.parts {k : IntKind} {w w' : World} {o : Option (Int × List UInt8)} {e : Ending} (h : RetT k w o e w') :
    ∃ r, e = .returned (.tuple #[.int k (TakenN o), r, .int .i64 (TakenE o)]) ∧ IsB (TakenR o) r w' ∧ Below w.heap.size w w' := by
  cases o with
  | none => exact ⟨_, h.1, isB_nil _, h.2⟩
  | some p =>
    obtain ⟨A, c, h1, h2, h3, h4, h5, h6⟩ := h
    exact ⟨_, h1, h5.isB, h6⟩
theorem RetT.owned {k : IntKind} {w w' : World} {o : Option (Int × List UInt8)} {e : Ending} (h : RetT k w o e w') :
    ∃ r, e = .returned (.tuple #[.int k (TakenN o), r, .int .i64 (TakenE o)]) ∧ OwnB w (TakenR o) r w' ∧ Below w.heap.size w w' := by
  cases o with
  | none => exact ⟨_, h.1, OwnB.nil _ _, h.2⟩
  | some p =>
    obtain ⟨A, c, h1, h2, h3, h4, h5, h6⟩ := h
    exact ⟨_, h1, h5, h6⟩
theorem take_isB {l : List UInt8} {v : Value} {w : World} (h : IsB l v w) (hl : l.length ≤ 1000000) : Calls Try.prog 26 #[v] w (RetT .u64 w ((vtake l).map fun p => ((p.1 : Int), p.2))) := by
  obtain ⟨A, c, rfl, h2, h3, h4, h5⟩ := h
  exact take_any A _ c l w h2 rfl h3 hl h5
theorem put_isB {l : List UInt8} {v : Value} {w : World} (x : Int) (h : IsB l v w) (hl : l.length ≤ 1000000) (h0 : 0 ≤ x) (h1 : x < 18446744073709551616) :
    Calls Try.prog 23 #[v, .int .u64 x] w fun e w' => ∃ v, e = .returned v ∧ IsB (l ++ vput x.toNat) v w' ∧ Below w.heap.size w w' := by
  obtain ⟨A, c, rfl, h2, h3, h4, h5⟩ := h
  exact (put_any A _ c x l w h2 rfl hl h5 h0 h1).mono fun _ _ h => h.isB
theorem rput_isB {l : List UInt8} {v : Value} {w : World} (x : Int) (h : IsB l v w) (hl : l.length ≤ 1000000) (h0 : 0 ≤ x) (h1 : x < 18446744073709551616) :
    Calls Try.prog 15 #[v, .int .u64 x] w fun e w' => ∃ v, e = .returned v ∧ IsB (l ++ vput x.toNat) v w' ∧ Below w.heap.size w w' := by
  obtain ⟨A, c, rfl, h2, h3, h4, h5⟩ := h
  exact (rput_any A _ c x l w h2 rfl hl h5 h0 h1).mono fun _ _ h => h.isB
end Go.Proofs.Ytocodcceimeiiaa
