
/- Numbers made ones that are not below 0, and back: the plain mathematics (varint). -/

namespace Go.Proofs.Ytocodcceimeiiaa

/-- A number made one that is not below 0, and back. -/
def vzig (x : Int) : Int := if x < 0 then -2 * x - 1 else 2 * x
def vzag (u : Int) : Int := if u % 2 = 1 then -(u / 2) - 1 else u / 2
theorem vzig_neg {x : Int} (h : x < 0) : vzig x = -2 * x - 1 := if_pos h
theorem vzig_pos {x : Int} (h : 0 ≤ x) : vzig x = 2 * x := if_neg (by omega)
theorem vzag_odd {u : Int} (h : u % 2 = 1) : vzag u = -(u / 2) - 1 := if_pos h
theorem vzag_even {u : Int} (h : u % 2 = 0) : vzag u = u / 2 := if_neg (by omega)
theorem vzig_bd {x : Int} (h0 : -9223372036854775808 ≤ x) (h1 : x ≤ 9223372036854775807) : 0 ≤ vzig x ∧ vzig x < 18446744073709551616 := by unfold vzig; split <;> omega
theorem vzag_bd {u : Int} (h0 : 0 ≤ u) (h1 : u < 18446744073709551616) : -9223372036854775808 ≤ vzag u ∧ vzag u ≤ 9223372036854775807 := by unfold vzag; split <;> omega
theorem vzag_vzig (x : Int) : vzag (vzig x) = x := by unfold vzag vzig; split <;> split <;> omega
theorem vzig_vzag {u : Int} (h : 0 ≤ u) : vzig (vzag u) = u := by unfold vzag vzig; split <;> split <;> omega
end Go.Proofs.Ytocodcceimeiiaa
