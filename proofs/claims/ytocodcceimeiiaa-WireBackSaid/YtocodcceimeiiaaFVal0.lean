
/- A value as fields with tags (layer 19: P19.2), as plain mathematics. -/

import Derived.Test.YtocodcceimeiiaaFPlain

import Derived.Test.YtocodcceimeiiaaVZig

import Derived.Test.YtocodcceimeiiaaKPlain

namespace Go.Proofs.Ytocodcceimeiiaa

def fnum (t : Int) (n : Nat) : WF := ⟨t, false, n, []⟩
def fbyt (t : Int) (b : List UInt8) : WF := ⟨t, true, 0, b⟩
def fbit (b : Bool) : Nat := if b then 1 else 0
/-- A value's fields. -/
def fvalue (v : CV) : List WF := [fnum 1 (fbit v.null), fnum 2 (vzig v.n).toNat, fbyt 3 v.s.toList]
def fputV (v : CV) : List UInt8 := (fvalue v).flatMap fput1
theorem fbit_one (b : Bool) : (fbit b == 1) = b := by cases b <;> rfl
theorem fbit_lt (b : Bool) : fbit b < 18446744073709551616 := by cases b <;> decide
theorem fnum_ok {t : Int} {n : Nat} (ht : 1 ≤ t ∧ t ≤ 100) (hn : n < 18446744073709551616) : FOk (fnum t n) := ⟨ht, hn, by simp [fnum], fun _ => rfl, fun h => by simp [fnum] at h⟩
theorem fbyt_ok {t : Int} {b : List UInt8} (ht : 1 ≤ t ∧ t ≤ 100) (hb : b.length < 18446744073709551616) : FOk (fbyt t b) := ⟨ht, by simp [fbyt], hb, fun h => by simp [fbyt] at h, fun _ => rfl⟩
theorem vput_len_all {x : Nat} (h : x < 18446744073709551616) : (vput x).length ≤ 10 := vput_len_10 h
theorem toList_lenF (s : ByteArray) : s.toList.length = s.size := by rw [ByteArray.toList_eq]; rfl
theorem ofList_backF (s : ByteArray) : (⟨s.toList.toArray⟩ : ByteArray) = s := by rw [ByteArray.toList_eq]
theorem fvalue_ok {v : CV} (hi : v.inInt) (hs : v.s.size < 18446744073709551616) : ∀ f ∈ fvalue v, FOk f := by
  have hz := vzig_bd hi.1 hi.2
  intro f hf
  simp only [fvalue, List.mem_cons, List.not_mem_nil, or_false] at hf
  rcases hf with rfl | rfl | rfl
  · exact fnum_ok (by omega) (fbit_lt _)
  · exact fnum_ok (by omega) (by omega)
  · exact fbyt_ok (by omega) (by rw [toList_lenF]; exact hs)
theorem fput1_len_num {t : Int} {n : Nat} (ht : 1 ≤ t ∧ t ≤ 100) (hn : n < 18446744073709551616) : (fput1 (fnum t n)).length ≤ 20 := by
  rw [fput1_num rfl, List.length_append]
  have h1 := vput_len_10 (x := (8 * t).toNat) (by omega)
  have h2 := vput_len_10 hn
  simp only [fnum] at h1 h2 ⊢
  omega
theorem fput1_len_byt {t : Int} {b : List UInt8} (ht : 1 ≤ t ∧ t ≤ 100) (hn : b.length < 18446744073709551616) : (fput1 (fbyt t b)).length ≤ 20 + b.length := by
  rw [fput1_byt rfl, List.length_append, List.length_append]
  have h1 := vput_len_10 (x := (8 * t + 2).toNat) (by omega)
  have h2 := vput_len_10 hn
  simp only [fbyt] at h1 h2 ⊢
  omega
theorem fputV_len {v : CV} (hi : v.inInt) (hs : v.s.size < 18446744073709551616) : (fputV v).length ≤ 60 + v.s.size := by
  have hz := vzig_bd hi.1 hi.2
  unfold fputV fvalue
  simp only [List.flatMap_cons, List.flatMap_nil, List.append_nil, List.length_append]
  have h1 := fput1_len_num (t := 1) (by omega) (fbit_lt v.null)
  have h2 := fput1_len_num (t := 2) (n := (vzig v.n).toNat) (by omega) (by omega)
  have h3 := fput1_len_byt (t := 3) (b := v.s.toList) (by omega) (by rw [toList_lenF]; exact hs)
  rw [toList_lenF] at h3
  omega
/-- A number stands in the first ten bytes, if anywhere. -/
theorem vtake_ten (l : List UInt8) : vtake l = (vtake (l.take 10)).map fun p => (p.1, p.2 ++ l.drop 10) := by
  cases h : vtake (l.take 10) with
  | some p =>
    obtain ⟨x, r⟩ := p
    obtain ⟨h1, h2⟩ := vtake_some h
    have h3 : l = vput x ++ (r ++ l.drop 10) := by rw [← List.append_assoc, ← h1, List.take_append_drop]
    rw [Option.map_some]
    conv => lhs; rw [h3]
    exact vtake_put h2 _
  | none =>
    cases h1 : vtake l with
    | none => rfl
    | some p =>
      obtain ⟨x, r⟩ := p
      obtain ⟨h2, h3⟩ := vtake_some h1
      have h4 := vput_len_10 h3
      have h5 : l.take 10 = vput x ++ r.take (10 - (vput x).length) := by rw [h2, List.take_append, List.take_of_length_le h4]
      rw [h5, vtake_put h3] at h
      cases h
end Go.Proofs.Ytocodcceimeiiaa
