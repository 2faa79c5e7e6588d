
/- Contracts of varint's functions that only compute with numbers. -/

import Derived.Test.YtocodcceimeiiaaShelf

import Derived.Test.YtocodcceimeiiaaCom

import Derived.Test.YtocodcceimeiiaaPlain

import Derived.Test.YtocodcceimeiiaaVZig

namespace Go.Proofs.Ytocodcceimeiiaa

open Go.RowKit

theorem zig_any (x : Int) (w : World) (h0 : -9223372036854775808 ≤ x) (h1 : x ≤ 9223372036854775807) :
    Calls Try.prog 21 #[.int .i64 x] w fun e w' => e = .returned (.int .u64 (vzig x)) ∧ w = w' := by
  by_cases hx : x < 0
  · have hb := u64_not (IntKind.u64.wrap (IntKind.u64.wrap x * 2)) (by rw [IntKind.wrap_u64]; omega) (by rw [IntKind.wrap_u64]; omega)
    have hs : IntKind.u64.signed = false := rfl
    go_enter Try.func21, Try.ntmps21
    go_wp2
    go_ret
    exact ⟨ret_int (by rw [vzig_neg hx]; simp only [IntKind.wrap_u64]; omega), rfl⟩
  · go_enter Try.func21, Try.ntmps21
    go_wp2
    go_ret
    exact ⟨ret_int (by rw [vzig_pos (by omega)]; omega), rfl⟩
theorem vsize_any (u : Int) (w : World) (h0 : 0 ≤ u) (h1 : u < 18446744073709551616) :
    Calls Try.prog 25 #[.int .u64 u] w fun e w' => e = .returned (.int .i64 ((vput u.toNat).length : Nat)) ∧ w = w' := by
  have ho := u64_or1 u h0 h1
  have hl : u.toNat ||| 1 < 2 ^ 64 := Nat.or_lt_two_pow (by omega) (by omega)
  have HB := Lib.hid (bitLen_vput u.toNat (by omega))
  have hle := vput_len_10 (x := u.toNat) (by omega)
  generalize (vput u.toNat).length = n at *
  generalize u.toNat ||| 1 = m at *
  have hle2 : Lib.bitLen m ≤ 70 := by have := HB.out; omega
  go_enter Try.func25, Try.ntmps25
  go_wp2_with (go_at_call 27; refine (Try.bits_Len64 _ _ (by omega) (by omega)).mono ?_; rintro e w' ⟨rfl, rfl⟩)
  go_ret
  exact ⟨ret_int (by have := HB.out; omega), rfl⟩
theorem mayEnd_any (i c : Int) (w : World) (h0 : 0 ≤ i) (h1 : i ≤ 1000) (h2 : 0 ≤ c) (h3 : c < 256) :
    Calls Try.prog 28 #[.int .i64 i, .int .u8 c] w fun e w' => e = .returned (.bool (vend i.toNat c.toNat)) ∧ w = w' := by
  by_cases h9 : i = 9
  · subst h9
    have hv : vend (9 : Int).toNat c.toNat = (c == 1) := by
      show (if 9 = 9 then c.toNat == 1 else _) = _
      rw [if_pos rfl, Bool.eq_iff_iff]; simp; omega
    have HV := Lib.hid hv
    clear hv
    go_enter Try.func28, Try.ntmps28
    go_wp2
    go_ret
    exact ⟨ret_bool HV.out.symm, rfl⟩
  · have h9' : (i == 9) = false := by simpa using h9
    have hv : vend i.toNat c.toNat = (c != 0 || i == 0) := by
      show (if i.toNat = 9 then _ else c.toNat != 0 || i.toNat == 0) = _
      rw [if_neg (by omega), Bool.eq_iff_iff]; simp; omega
    by_cases hc : c = 0
    · subst hc
      have HV := Lib.hid hv
      clear hv
      go_enter Try.func28, Try.ntmps28
      go_wp2
      go_ret
      exact ⟨ret_bool (by rw [HV.out]; rfl), rfl⟩
    · have hc' : (c != 0) = true := by simpa using hc
      have HV := Lib.hid hv
      clear hv
      go_enter Try.func28, Try.ntmps28
      go_wp2
      go_ret
      exact ⟨ret_bool (by rw [HV.out, hc']; rfl), rfl⟩
end Go.Proofs.Ytocodcceimeiiaa
