
/- A number a few times (layer 7), as plain mathematics. -/

import Derived.Test.YtiapopaggpnceaaDoorWPlain

import Derived.Test.YtiapopaggpnceaaDoorBPlain

import Derived.Test.YtiapopaggpnceaaDoorVZig

namespace Go.Proofs.YtiapopaggpnceaaDoor

/-- How many bytes a number needs. -/
def ebytes (u : Nat) : Nat := max 1 ((wbits u + 7) / 8)
theorem ebytes_pos (u : Nat) : 1 ≤ ebytes u := Nat.le_max_left _ _
theorem ebytes_8 {u : Nat} (h : u < 2 ^ 64) : ebytes u ≤ 8 := by have := wbits_64 h; unfold ebytes; omega
theorem ebytes_room {u : Nat} (h : u < 2 ^ 64) : u < 256 ^ ebytes u := by
  rw [p256]
  exact Nat.lt_of_lt_of_le (wbits_lt h) (Nat.pow_le_pow_right (by omega) (by unfold ebytes; omega))
theorem ebytes_least {u n : Nat} (h : u < 2 ^ 64) (hn : 1 ≤ n) (h8 : n ≤ 8) (hu : u < 256 ^ n) : ebytes u ≤ n := by
  rw [p256] at hu
  have := (wbits_iff h (show 8 * n ≤ 64 by omega)).2 hu
  unfold ebytes
  omega
/-- A number as it stands; none: it may not be. -/
def eplain (x : Int) (s : Bool) : Option Nat := if s then some (vzig x).toNat else if 0 ≤ x then some x.toNat else none
def emade (u : Nat) (s : Bool) : Option Int := if s then some (vzag (u : Int)) else if u < 9223372036854775808 then some (u : Int) else none
theorem eplain_lt {x : Int} {s : Bool} {u : Nat} (h0 : -9223372036854775808 ≤ x) (h1 : x ≤ 9223372036854775807) (h : eplain x s = some u) : u < 2 ^ 64 := by
  have := vzig_bd h0 h1
  unfold eplain at h
  cases s <;> simp at h
  · omega
  · omega
theorem emade_eplain {x : Int} {s : Bool} {u : Nat} (h0 : -9223372036854775808 ≤ x) (h1 : x ≤ 9223372036854775807) (h : eplain x s = some u) : emade u s = some x := by
  have hb := vzig_bd h0 h1
  unfold eplain at h
  unfold emade
  cases s with
  | true =>
    simp at h
    rw [if_pos rfl, ← h, show (((vzig x).toNat : Nat) : Int) = vzig x by omega, vzag_vzig]
  | false =>
    simp at h
    rw [if_neg (by simp), if_pos (by omega)]
    congr 1
    omega
theorem eplain_emade {x : Int} {s : Bool} {u : Nat} (h : emade u s = some x) : eplain x s = some u := by
  unfold emade at h
  unfold eplain
  cases s with
  | true =>
    simp at h
    rw [if_pos rfl, ← h, vzig_vzag (by omega)]
    simp
  | false =>
    simp at h
    rw [if_neg (by simp), if_pos (by omega)]
    congr 1
    omega
theorem emade_bd {x : Int} {s : Bool} {u : Nat} (hu : u < 2 ^ 64) (h : emade u s = some x) : -9223372036854775808 ≤ x ∧ x ≤ 9223372036854775807 := by
  unfold emade at h
  cases s with
  | true => simp at h; have := vzag_bd (u := (u : Int)) (by omega) (by omega); omega
  | false => simp at h; omega
/-- A repeat of a number as it stands. -/
def elay (u t : Nat) : List UInt8 := UInt8.ofNat (8 * (ebytes u - 1) + (t - 3)) :: be (ebytes u) u
theorem elay_len (u t : Nat) : (elay u t).length = ebytes u + 1 := by simp [elay, be_len]
/-- What Put answers. -/
def eput (x t : Int) (s : Bool) : List UInt8 × Int :=
  if t < 3 ∨ 10 < t then ([], 1) else match eplain x s with | none => ([], 1) | some u => (elay u t.toNat, 0)
/-- What Take answers: the number, the times, the bytes behind, an error. -/
def etake (l : List UInt8) (s : Bool) : Int × Int × List UInt8 × Int :=
  match l with
  | [] => (0, 0, [], 2)
  | b :: r =>
    if 64 ≤ b.toNat then (0, 0, [], 2)
    else if r.length < b.toNat / 8 + 1 then (0, 0, [], 2)
    else if ebytes (bval (r.take (b.toNat / 8 + 1))) ≠ b.toNat / 8 + 1 then (0, 0, [], 2)
    else match emade (bval (r.take (b.toNat / 8 + 1))) s with
      | none => (0, 0, [], 2)
      | some x => (x, ((b.toNat % 8 + 3 : Nat) : Int), r.drop (b.toNat / 8 + 1), 0)
/-- P7.2. -/
theorem etake_back {u t : Nat} {x : Int} {s : Bool} (hu : u < 2 ^ 64) (h3 : 3 ≤ t) (h10 : t ≤ 10) (hx : emade u s = some x) (b : List UInt8) : etake (elay u t ++ b) s = (x, (t : Int), b, 0) := by
  have h1 := ebytes_pos u
  have h8 := ebytes_8 hu
  have hr := ebytes_room hu
  have hc : (UInt8.ofNat (8 * (ebytes u - 1) + (t - 3))).toNat = 8 * (ebytes u - 1) + (t - 3) := by rw [UInt8.toNat_ofNat']; omega
  have hd : (8 * (ebytes u - 1) + (t - 3)) / 8 + 1 = ebytes u := by omega
  have hm : (8 * (ebytes u - 1) + (t - 3)) % 8 + 3 = t := by omega
  have hl := be_len (ebytes u) u
  have ht : (be (ebytes u) u ++ b).take (ebytes u) = be (ebytes u) u := by
    conv => lhs; rw [show ebytes u = (be (ebytes u) u).length from hl.symm]
    rw [hl]
    conv => lhs; arg 1; rw [← hl]
    simp
  have hv : bval (be (ebytes u) u) = u := by rw [bval_be, Nat.mod_eq_of_lt hr]
  have hdr : (be (ebytes u) u ++ b).drop (ebytes u) = b := by
    have := List.drop_left (l₁ := be (ebytes u) u) (l₂ := b)
    rwa [hl] at this
  unfold elay etake
  rw [List.cons_append]
  simp only [hc, hd, hm]
  rw [if_neg (by omega), if_neg (by rw [List.length_append, hl]; omega), ht, hv, if_neg (by simp), hx]
  simp only [hdr]
/-- What is cut is none. -/
theorem etake_cut {u t : Nat} {s : Bool} (hu : u < 2 ^ 64) (h3 : 3 ≤ t) (h10 : t ≤ 10) {i : Nat} (hi : i < (elay u t).length) : etake ((elay u t).take i) s = (0, 0, [], 2) := by
  have h1 := ebytes_pos u
  have h8 := ebytes_8 hu
  have hc : (UInt8.ofNat (8 * (ebytes u - 1) + (t - 3))).toNat = 8 * (ebytes u - 1) + (t - 3) := by rw [UInt8.toNat_ofNat']; omega
  have hd : (8 * (ebytes u - 1) + (t - 3)) / 8 + 1 = ebytes u := by omega
  rw [elay_len] at hi
  unfold elay
  cases i with
  | zero => rfl
  | succ i =>
    rw [List.take_succ_cons]
    unfold etake
    simp only [hc, hd]
    rw [if_neg (by omega), if_pos (by rw [List.length_take, be_len]; omega)]
end Go.Proofs.YtiapopaggpnceaaDoor
