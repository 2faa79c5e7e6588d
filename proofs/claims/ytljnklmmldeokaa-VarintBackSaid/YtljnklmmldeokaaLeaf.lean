/- Contracts of varint's functions that only compute with numbers. -/
import Derived.Test.YtljnklmmldeokaaShelf
import Derived.Test.YtljnklmmldeokaaRows
import Derived.Test.YtljnklmmldeokaaPlain
import Derived.Test.YtljnklmmldeokaaBits
import Derived.WalkKit
import Derived.WalkLawsBesides
import Derived.Outline
import Derived.Lib.Hide
import Derived.Handy
namespace Go.Proofs.Ytljnklmmldeokaa
open Go.RowKit

/-- A number made one that is not below 0, and back. -/
def vzig (x : Int) : Int := if x < 0 then -2 * x - 1 else 2 * x
def vzag (u : Int) : Int := if u % 2 = 1 then -(u / 2) - 1 else u / 2
theorem vzig_neg {x : Int} (h : x < 0) : vzig x = -2 * x - 1 := if_pos h
theorem vzig_pos {x : Int} (h : 0 ≤ x) : vzig x = 2 * x := if_neg (by omega)
theorem vzag_odd {u : Int} (h : u % 2 = 1) : vzag u = -(u / 2) - 1 := if_pos h
theorem vzag_even {u : Int} (h : u % 2 = 0) : vzag u = u / 2 := if_neg (by omega)
theorem vzig_bd {x : Int} (h0 : -9223372036854775808 ≤ x) (h1 : x ≤ 9223372036854775807) : 0 ≤ vzig x ∧ vzig x < 18446744073709551616 := by unfold vzig; split <;> omega
theorem vzag_bd {u : Int} (h0 : 0 ≤ u) (h1 : u < 18446744073709551616) : -9223372036854775808 ≤ vzag u ∧ vzag u ≤ 9223372036854775807 := by unfold vzag; split <;> omega
theorem vzag_vzig (x : Int) : vzag (vzig x) = x := by unfold vzag vzig; split <;> split <;> omega
theorem vzig_vzag {u : Int} (h : 0 ≤ u) : vzig (vzag u) = u := by unfold vzag vzig; split <;> split <;> omega

theorem ret_int {k : IntKind} {a b : Int} (h : a = b) : Ending.returned (.int k a) = .returned (.int k b) := by rw [h]
theorem ret_bool {a b : Bool} (h : a = b) : Ending.returned (.bool a) = .returned (.bool b) := by rw [h]

theorem zig_any (x : Int) (w : World) (h0 : -9223372036854775808 ≤ x) (h1 : x ≤ 9223372036854775807) :
    Calls Try.prog 18 #[.int .i64 x] w fun e w' => e = .returned (.int .u64 (vzig x)) ∧ w = w' := by
  by_cases hx : x < 0
  · have hb := u64_not (IntKind.u64.wrap (IntKind.u64.wrap x * 2)) (by rw [IntKind.wrap_u64]; omega) (by rw [IntKind.wrap_u64]; omega)
    have hs : IntKind.u64.signed = false := rfl
    go_enter Try.func18, Try.ntmps18
    go_wp2
    go_ret
    exact ⟨ret_int (by rw [vzig_neg hx]; simp only [IntKind.wrap_u64]; omega), rfl⟩
  · go_enter Try.func18, Try.ntmps18
    go_wp2
    go_ret
    exact ⟨ret_int (by rw [vzig_pos (by omega)]; omega), rfl⟩
theorem rzig_any (x : Int) (w : World) (h0 : -9223372036854775808 ≤ x) (h1 : x ≤ 9223372036854775807) :
    Calls Try.prog 19 #[.int .i64 x] w fun e w' => e = .returned (.int .u64 (vzig x)) ∧ w = w' := by
  by_cases hx : x < 0
  · go_enter Try.func19, Try.ntmps19
    go_wp2
    go_ret
    exact ⟨ret_int (by rw [vzig_neg hx]; omega), rfl⟩
  · go_enter Try.func19, Try.ntmps19
    go_wp2
    go_ret
    exact ⟨ret_int (by rw [vzig_pos (by omega)]), rfl⟩
theorem zag_any (u : Int) (w : World) (h0 : 0 ≤ u) (h1 : u < 18446744073709551616) :
    Calls Try.prog 20 #[.int .u64 u] w fun e w' => e = .returned (.int .i64 (vzag u)) ∧ w = w' := by
  have hb := i64_not (u / 2) (by omega) (by omega)
  have ha := u64_and1 u h0 h1
  have hs : IntKind.i64.signed = true := rfl
  rcases (by omega : u % 2 = 0 ∨ u % 2 = 1) with hu | hu
  · have hz : (u % 2 != 0) = false := by simp [hu]
    have H := Lib.hid hu
    clear hu
    go_enter Try.func20, Try.ntmps20
    go_wp2
    go_ret
    exact ⟨ret_int (by rw [vzag_even H.out]), rfl⟩
  · have hz : (u % 2 != 0) = true := by simp [hu]
    have H := Lib.hid hu
    clear hu
    go_enter Try.func20, Try.ntmps20
    go_wp2
    go_ret
    exact ⟨ret_int (by rw [vzag_odd H.out]), rfl⟩
theorem rzag_any (u : Int) (w : World) (h0 : 0 ≤ u) (h1 : u < 18446744073709551616) :
    Calls Try.prog 21 #[.int .u64 u] w fun e w' => e = .returned (.int .i64 (vzag u)) ∧ w = w' := by
  rcases (by omega : u % 2 = 0 ∨ u % 2 = 1) with hu | hu
  · have hz : (u % 2 == 1) = false := by simp [hu]
    have H := Lib.hid hu
    clear hu
    go_enter Try.func21, Try.ntmps21
    go_wp2
    go_ret
    exact ⟨ret_int (by rw [vzag_even H.out]), rfl⟩
  · have hz : (u % 2 == 1) = true := by simp [hu]
    have H := Lib.hid hu
    clear hu
    go_enter Try.func21, Try.ntmps21
    go_wp2
    go_ret
    exact ⟨ret_int (by rw [vzag_odd H.out]), rfl⟩
theorem size_any (u : Int) (w : World) (h0 : 0 ≤ u) (h1 : u < 18446744073709551616) :
    Calls Try.prog 22 #[.int .u64 u] w fun e w' => e = .returned (.int .i64 ((vput u.toNat).length : Nat)) ∧ w = w' := by
  have ho := u64_or1 u h0 h1
  have hl : u.toNat ||| 1 < 2 ^ 64 := Nat.or_lt_two_pow (by omega) (by omega)
  have HB := Lib.hid (bitLen_vput u.toNat (by omega))
  have hle := vput_len_10 (x := u.toNat) (by omega)
  generalize (vput u.toNat).length = n at *
  generalize u.toNat ||| 1 = m at *
  have hle2 : Lib.bitLen m ≤ 70 := by have := HB.out; omega
  go_enter Try.func22, Try.ntmps22
  go_wp2_with (go_at_call 24; refine (Try.bits_Len64 _ _ (by omega) (by omega)).mono ?_; rintro e w' ⟨rfl, rfl⟩)
  go_ret
  exact ⟨ret_int (by have := HB.out; omega), rfl⟩
theorem mayEnd_any (i c : Int) (w : World) (h0 : 0 ≤ i) (h1 : i ≤ 1000) (h2 : 0 ≤ c) (h3 : c < 256) :
    Calls Try.prog 23 #[.int .i64 i, .int .u8 c] w fun e w' => e = .returned (.bool (vend i.toNat c.toNat)) ∧ w = w' := by
  by_cases h9 : i = 9
  · subst h9
    have hv : vend (9 : Int).toNat c.toNat = (c == 1) := by
      show (if 9 = 9 then c.toNat == 1 else _) = _
      rw [if_pos rfl, Bool.eq_iff_iff]; simp; omega
    have HV := Lib.hid hv
    clear hv
    go_enter Try.func23, Try.ntmps23
    go_wp2
    go_ret
    exact ⟨ret_bool HV.out.symm, rfl⟩
  · have h9' : (i == 9) = false := by simpa using h9
    have hv : vend i.toNat c.toNat = (c != 0 || i == 0) := by
      show (if i.toNat = 9 then _ else c.toNat != 0 || i.toNat == 0) = _
      rw [if_neg (by omega), Bool.eq_iff_iff]; simp; omega
    by_cases hc : c = 0
    · subst hc
      have HV := Lib.hid hv
      clear hv
      go_enter Try.func23, Try.ntmps23
      go_wp2
      go_ret
      exact ⟨ret_bool (by rw [HV.out]; rfl), rfl⟩
    · have hc' : (c != 0) = true := by simpa using hc
      have HV := Lib.hid hv
      clear hv
      go_enter Try.func23, Try.ntmps23
      go_wp2
      go_ret
      exact ⟨ret_bool (by rw [HV.out, hc']; rfl), rfl⟩
end Go.Proofs.Ytljnklmmldeokaa
