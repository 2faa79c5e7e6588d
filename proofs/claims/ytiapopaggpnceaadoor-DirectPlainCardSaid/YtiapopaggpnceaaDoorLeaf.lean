
/- Contracts of varint's functions that only compute with numbers. -/

import Derived.Test.YtiapopaggpnceaaDoorShelf

import Derived.Test.YtiapopaggpnceaaDoorCom

import Derived.Test.YtiapopaggpnceaaDoorPlain

import Derived.Test.YtiapopaggpnceaaDoorVZig

namespace Go.Proofs.YtiapopaggpnceaaDoor

open Go.RowKit

theorem zig_any (x : Int) (w : World) (h0 : -9223372036854775808 ≤ x) (h1 : x ≤ 9223372036854775807) :
    Calls Tryd.prog 27 #[.int .i64 x] w fun e w' => e = .returned (.int .u64 (vzig x)) ∧ w = w' := by
  by_cases hx : x < 0
  · have hb := u64_not (IntKind.u64.wrap (IntKind.u64.wrap x * 2)) (by rw [IntKind.wrap_u64]; omega) (by rw [IntKind.wrap_u64]; omega)
    have hs : IntKind.u64.signed = false := rfl
    go_enter Tryd.func27, Tryd.ntmps27
    go_wp2
    go_ret
    exact ⟨ret_int (by rw [vzig_neg hx]; simp only [IntKind.wrap_u64]; omega), rfl⟩
  · go_enter Tryd.func27, Tryd.ntmps27
    go_wp2
    go_ret
    exact ⟨ret_int (by rw [vzig_pos (by omega)]; omega), rfl⟩
theorem rzig_any (x : Int) (w : World) (h0 : -9223372036854775808 ≤ x) (h1 : x ≤ 9223372036854775807) :
    Calls Tryd.prog 42 #[.int .i64 x] w fun e w' => e = .returned (.int .u64 (vzig x)) ∧ w = w' := by
  by_cases hx : x < 0
  · go_enter Tryd.func42, Tryd.ntmps42
    go_wp2
    go_ret
    exact ⟨ret_int (by rw [vzig_neg hx]; omega), rfl⟩
  · go_enter Tryd.func42, Tryd.ntmps42
    go_wp2
    go_ret
    exact ⟨ret_int (by rw [vzig_pos (by omega)]), rfl⟩
theorem zag_any (u : Int) (w : World) (h0 : 0 ≤ u) (h1 : u < 18446744073709551616) :
    Calls Tryd.prog 29 #[.int .u64 u] w fun e w' => e = .returned (.int .i64 (vzag u)) ∧ w = w' := by
  have hb := i64_not (u / 2) (by omega) (by omega)
  have ha := u64_and1 u h0 h1
  have hs : IntKind.i64.signed = true := rfl
  rcases (by omega : u % 2 = 0 ∨ u % 2 = 1) with hu | hu
  · have hz : (u % 2 != 0) = false := by simp [hu]
    have H := Lib.hid hu
    clear hu
    go_enter Tryd.func29, Tryd.ntmps29
    go_wp2
    go_ret
    exact ⟨ret_int (by rw [vzag_even H.out]), rfl⟩
  · have hz : (u % 2 != 0) = true := by simp [hu]
    have H := Lib.hid hu
    clear hu
    go_enter Tryd.func29, Tryd.ntmps29
    go_wp2
    go_ret
    exact ⟨ret_int (by rw [vzag_odd H.out]), rfl⟩
theorem rzag_any (u : Int) (w : World) (h0 : 0 ≤ u) (h1 : u < 18446744073709551616) :
    Calls Tryd.prog 43 #[.int .u64 u] w fun e w' => e = .returned (.int .i64 (vzag u)) ∧ w = w' := by
  rcases (by omega : u % 2 = 0 ∨ u % 2 = 1) with hu | hu
  · have hz : (u % 2 == 1) = false := by simp [hu]
    have H := Lib.hid hu
    clear hu
    go_enter Tryd.func43, Tryd.ntmps43
    go_wp2
    go_ret
    exact ⟨ret_int (by rw [vzag_even H.out]), rfl⟩
  · have hz : (u % 2 == 1) = true := by simp [hu]
    have H := Lib.hid hu
    clear hu
    go_enter Tryd.func43, Tryd.ntmps43
    go_wp2
    go_ret
    exact ⟨ret_int (by rw [vzag_odd H.out]), rfl⟩
end Go.Proofs.YtiapopaggpnceaaDoor
