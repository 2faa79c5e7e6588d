
/- Contracts of the small functions of layer 3, and of the reference's. -/

import Derived.Test.YtiapopaggpnceaaDoorCom

import Derived.Test.YtiapopaggpnceaaDoorBGen

import Derived.WalkKit

import Derived.WalkLawsBesides

import Derived.Outline

import Derived.Lib.Hide

import Derived.Handy

import Derived.Deep.QuietTactic

import Derived.BigQuiet

namespace Go.Proofs.YtiapopaggpnceaaDoor

open Go.RowKit

theorem Tryd.infoU : (Tryd.prog.info? 52).map (fun i => (i.zero, i.size, i.bytes)) = some (some (uv 0), 1, 8) := by kernel_rfl
theorem elemU : Elem Tryd.prog 31 52 8 (uv 0) := by
  obtain ⟨i0, hi, hz0, hz1, hz2⟩ := info_parts Tryd.infoU
  exact ⟨Tryd.underlying31, rfl, i0, hi, hz0, hz1, hz2⟩

theorem isWidth_yes (n : Int) (w : World) (h0 : 0 ≤ n) (h1 : n ≤ 64) : Calls Tryd.prog 45 #[.int .i64 n] w fun e w' => e = .returned (.bool true) ∧ w = w' := by
  go_enter Tryd.func45, Tryd.ntmps45
  go_wp2
  go_ret
  exact ⟨rfl, rfl⟩
theorem isWidth_no (n : Int) (w : World) (h : n < 0 ∨ 64 < n) : Calls Tryd.prog 45 #[.int .i64 n] w fun e w' => e = .returned (.bool false) ∧ w = w' := by
  rcases h with h | h
  · have h2 : decide (0 ≤ n) = false := by simp; omega
    go_enter Tryd.func45, Tryd.ntmps45
    go_wp2
    go_ret
    exact ⟨rfl, rfl⟩
  · have h2 : decide (n ≤ 64) = false := by simp; omega
    go_enter Tryd.func45, Tryd.ntmps45
    go_wp2
    go_ret
    exact ⟨rfl, rfl⟩
theorem isCount_yes (n : Int) (w : World) (h0 : 0 ≤ n) (h1 : n ≤ 4096) : Calls Tryd.prog 46 #[.int .i64 n] w fun e w' => e = .returned (.bool true) ∧ w = w' := by
  go_enter Tryd.func46, Tryd.ntmps46
  go_wp2
  go_ret
  exact ⟨rfl, rfl⟩
theorem isCount_no (n : Int) (w : World) (h : n < 0 ∨ 4096 < n) : Calls Tryd.prog 46 #[.int .i64 n] w fun e w' => e = .returned (.bool false) ∧ w = w' := by
  rcases h with h | h
  · have h2 : decide (0 ≤ n) = false := by simp; omega
    go_enter Tryd.func46, Tryd.ntmps46
    go_wp2
    go_ret
    exact ⟨rfl, rfl⟩
  · have h2 : decide (n ≤ 4096) = false := by simp; omega
    go_enter Tryd.func46, Tryd.ntmps46
    go_wp2
    go_ret
    exact ⟨rfl, rfl⟩
theorem lowest_any (n : Nat) (w : World) (h : n ≤ 8) : Calls Tryd.prog 54 #[.int .i64 (n : Int)] w fun e w' => e = .returned (.int .u64 ((2 ^ n - 1 : Nat) : Int)) ∧ w = w' := by
  have h1 : 2 ^ n ≤ 2 ^ 8 := Nat.pow_le_pow_right (by omega) h
  have h2 : 1 ≤ 2 ^ n := Nat.one_le_two_pow
  have h3 : ((2 ^ n : Nat) : Int) = 2 ^ n := by simp
  obtain ⟨p, hp⟩ : ∃ p, p = 2 ^ n := ⟨_, rfl⟩
  have HP := Lib.hid hp
  have H1 := Lib.hid h1
  have H2 := Lib.hid h2
  have H3 := Lib.hid h3
  clear hp h1 h2 h3
  go_enter Tryd.func54, Tryd.ntmps54
  go_wp2
  go_ret
  refine ⟨ret_int ?_, rfl⟩
  have h1 := H1.out
  have h2 := H2.out
  rw [← H3.out, ← HP.out, IntKind.wrap_u64, IntKind.wrap_u64]
  rw [← HP.out] at h1 h2
  omega

/-- How many bytes are needed, of any two numbers. -/
def bsz (m w : Int) : Int := if 0 ≤ m ∧ m ≤ 4096 ∧ 0 ≤ w ∧ w ≤ 64 then (bsize m.toNat w.toNat : Int) else 0
theorem bsz_in {m w : Nat} (hm : m ≤ 4096) (hw : w ≤ 64) : bsz m w = bsize m w := by unfold bsz; rw [if_pos (by omega)]; simp
theorem bsz_out {m w : Int} (h : ¬ (0 ≤ m ∧ m ≤ 4096 ∧ 0 ≤ w ∧ w ≤ 64)) : bsz m w = 0 := by unfold bsz; rw [if_neg h]
theorem prod_le {m w : Nat} (hm : m ≤ 4096) (hw : w ≤ 64) : m * w ≤ 262144 := Nat.mul_le_mul hm hw
theorem size_in (m w : Nat) (W : World) (hm : m ≤ 4096) (hw : w ≤ 64) : Calls Tryd.prog 47 #[.int .i64 (m : Int), .int .i64 (w : Int)] W fun e w' => e = .returned (.int .i64 (bsize m w : Int)) ∧ W = w' := by
  obtain ⟨p, hp⟩ : ∃ p : Int, p = (m : Int) * (w : Int) := ⟨_, rfl⟩
  have hp0 : 0 ≤ (m : Int) * (w : Int) := by rw [← Int.natCast_mul]; omega
  have hp1 : (m : Int) * (w : Int) ≤ 262144 := by rw [← Int.natCast_mul]; have := prod_le hm hw; omega
  have HB : Hid ((bsize m w : Int) = ((m : Int) * (w : Int) + 7) / 8) := Lib.hid (by unfold bsize; simp)
  clear hp p
  go_enter Tryd.func47, Tryd.ntmps47
  go_wp2_with (first | (go_at_call 46; refine (isCount_yes _ _ (by omega) (by omega)).mono ?_; rintro e w' ⟨rfl, rfl⟩) | (go_at_call 45; refine (isWidth_yes _ _ (by omega) (by omega)).mono ?_; rintro e w' ⟨rfl, rfl⟩))
  go_ret
  refine ⟨ret_int ?_, rfl⟩
  rw [HB.out]
  first | rfl | (congr 1; omega)
theorem size_out (m w : Int) (W : World) (h : ¬ (0 ≤ m ∧ m ≤ 4096 ∧ 0 ≤ w ∧ w ≤ 64)) : Calls Tryd.prog 47 #[.int .i64 m, .int .i64 w] W fun e w' => e = .returned (.int .i64 0) ∧ W = w' := by
  rcases (by omega : (m < 0 ∨ 4096 < m) ∨ ((0 ≤ m ∧ m ≤ 4096) ∧ (w < 0 ∨ 64 < w))) with h | ⟨h1, h⟩
  · go_enter Tryd.func47, Tryd.ntmps47
    go_wp2_with (go_at_call 46; refine (isCount_no _ _ (by omega)).mono ?_; rintro e w' ⟨rfl, rfl⟩)
    go_ret
    exact ⟨rfl, rfl⟩
  · go_enter Tryd.func47, Tryd.ntmps47
    go_wp2_with (first | (go_at_call 46; refine (isCount_yes _ _ (by omega) (by omega)).mono ?_; rintro e w' ⟨rfl, rfl⟩) | (go_at_call 45; refine (isWidth_no _ _ (by omega)).mono ?_; rintro e w' ⟨rfl, rfl⟩))
    go_ret
    exact ⟨rfl, rfl⟩
theorem rsize_in (m w : Nat) (W : World) (hm : m ≤ 4096) (hw : w ≤ 64) : Calls Tryd.prog 50 #[.int .i64 (m : Int), .int .i64 (w : Int)] W fun e w' => e = .returned (.int .i64 (bsize m w : Int)) ∧ W = w' := by
  have hp0 : 0 ≤ (m : Int) * (w : Int) := by rw [← Int.natCast_mul]; omega
  have hp1 : (m : Int) * (w : Int) ≤ 262144 := by rw [← Int.natCast_mul]; have := prod_le hm hw; omega
  have HB : Hid ((bsize m w : Int) = ((m : Int) * (w : Int) + 7) / 8) := Lib.hid (by unfold bsize; simp)
  have d1 : decide ((4096 : Int) < (m : Int)) = false := by simp; omega
  have d2 : decide ((64 : Int) < (w : Int)) = false := by simp; omega
  go_enter Tryd.func50, Tryd.ntmps50
  go_wp2
  go_ret
  exact ⟨ret_int HB.out.symm, rfl⟩
theorem rsize_out (m w : Int) (W : World) (h : ¬ (0 ≤ m ∧ m ≤ 4096 ∧ 0 ≤ w ∧ w ≤ 64)) : Calls Tryd.prog 50 #[.int .i64 m, .int .i64 w] W fun e w' => e = .returned (.int .i64 0) ∧ W = w' := by
  rcases (by omega : m < 0 ∨ 4096 < m ∨ ((0 ≤ m ∧ m ≤ 4096) ∧ w < 0) ∨ ((0 ≤ m ∧ m ≤ 4096) ∧ 64 < w)) with h | h | ⟨⟨h1, h2⟩, h⟩ | ⟨⟨h1, h2⟩, h⟩
  · have d1 : decide (m < 0) = true := by simp; omega
    go_enter Tryd.func50, Tryd.ntmps50
    go_wp2
    go_ret
    exact ⟨rfl, rfl⟩
  · have d1 : decide (m < 0) = false := by simp; omega
    have d2 : decide (4096 < m) = true := by simp; omega
    go_enter Tryd.func50, Tryd.ntmps50
    go_wp2
    go_ret
    exact ⟨rfl, rfl⟩
  · have d1 : decide (m < 0) = false := by simp; omega
    have d2 : decide (4096 < m) = false := by simp; omega
    have d3 : decide (w < 0) = true := by simp; omega
    go_enter Tryd.func50, Tryd.ntmps50
    go_wp2
    go_ret
    exact ⟨rfl, rfl⟩
  · have d1 : decide (m < 0) = false := by simp; omega
    have d2 : decide (4096 < m) = false := by simp; omega
    have d3 : decide (w < 0) = false := by simp; omega
    have d4 : decide (64 < w) = true := by simp; omega
    go_enter Tryd.func50, Tryd.ntmps50
    go_wp2
    go_ret
    exact ⟨rfl, rfl⟩
theorem size_any (m w : Int) (W : World) : Calls Tryd.prog 47 #[.int .i64 m, .int .i64 w] W fun e w' => e = .returned (.int .i64 (bsz m w)) ∧ W = w' := by
  by_cases h : 0 ≤ m ∧ m ≤ 4096 ∧ 0 ≤ w ∧ w ≤ 64
  · obtain ⟨M, rfl⟩ := Int.eq_ofNat_of_zero_le h.1
    obtain ⟨K, rfl⟩ := Int.eq_ofNat_of_zero_le h.2.2.1
    rw [bsz_in (by omega) (by omega)]
    exact size_in M K W (by omega) (by omega)
  · rw [bsz_out h]
    exact size_out m w W h
theorem rsize_any (m w : Int) (W : World) : Calls Tryd.prog 50 #[.int .i64 m, .int .i64 w] W fun e w' => e = .returned (.int .i64 (bsz m w)) ∧ W = w' := by
  by_cases h : 0 ≤ m ∧ m ≤ 4096 ∧ 0 ≤ w ∧ w ≤ 64
  · obtain ⟨M, rfl⟩ := Int.eq_ofNat_of_zero_le h.1
    obtain ⟨K, rfl⟩ := Int.eq_ofNat_of_zero_le h.2.2.1
    rw [bsz_in (by omega) (by omega)]
    exact rsize_in M K W (by omega) (by omega)
  · rw [bsz_out h]
    exact rsize_out m w W h

/-- A slice that holds numbers that are not below 0. -/
def IsU (l : List Nat) (v : Value) (w : World) : Prop := ∃ A c, v = .slice A l.length c ∧ (A = none → l.length = 0) ∧ l.length ≤ c ∧ c ≤ maxLen ∧ Lies w A (l.map uv)
theorem IsU.below {l : List Nat} {v : Value} {w w' : World} (h : IsU l v w) (hb : Below w.heap.size w w') : IsU l v w' := by
  obtain ⟨A, c, h1, h2, h3, h4, h5⟩ := h
  exact ⟨A, c, h1, h2, h3, h4, h5.below hb⟩
theorem uv_one (l : List Nat) : ∀ u ∈ l.map uv, u.oneCell' = true := by
  intro u hu
  obtain ⟨b, _, rfl⟩ := List.mem_map.1 hu
  rfl

def SameRel (l m : List Nat) (w : World) (i : Value) (wr : World) : Prop := ∃ k : Nat, i = .int .i64 (k : Int) ∧ k ≤ l.length ∧ l.take k = m.take k ∧ Below w.heap.size w wr
set_option maxHeartbeats 1000000 in
theorem same_any (A B : Option Addr) (n c n' c' : Nat) (l m : List Nat) (w : World) (hn : l.length = n) (hn' : m.length = n') (hb : n ≤ 1000000) (hb' : n' ≤ 1000000) (hl : Lies w A (l.map uv)) (hm : Lies w B (m.map uv)) :
    Calls Tryd.prog 18 #[.slice A n c, .slice B n' c'] w fun e w' => e = .returned (.bool (l == m)) ∧ Below w.heap.size w w' := by
  have HN := Lib.hid hn
  have HN' := Lib.hid hn'
  clear hn hn'
  by_cases hnn : n = n'
  · subst hnn
    have d1 : ((n : Int) != (n : Int)) = false := by simp
    go_enter Tryd.func18, Tryd.ntmps18
    go_wp2
    go_loopw [5] (SameRel l m w) (fun i _ => n - (intOf i).toNat)
    case atStart => exact ⟨0, rfl, by omega, by simp, Below.refl _ _⟩
    case round =>
      obtain ⟨k, rfl, hk, he, hbr⟩ := hrel
      have HE := Lib.hid he
      clear he
      have hk' : k ≤ n := by have := HN.out; omega
      by_cases hlt : k < n
      · have hkl : k < l.length := by have := HN.out; omega
        have hkm : k < m.length := by have := HN'.out; omega
        obtain ⟨ad, rfl, _, hcell⟩ := (hl.below hbr).cell (k := k) (by simpa using hkl)
        obtain ⟨ad', rfl, _, hcell'⟩ := (hm.below hbr).cell (k := k) (by simpa using hkm)
        obtain ⟨x, hx⟩ : ∃ x : Nat, x = l[k] := ⟨_, rfl⟩
        obtain ⟨y, hy⟩ : ∃ y : Nat, y = m[k] := ⟨_, rfl⟩
        have hcx : wr.cell? (ad.add k) = some (.int .u64 (x : Int)) := by rw [hcell, List.getElem_map, hx]; rfl
        have hcy : wr.cell? (ad'.add k) = some (.int .u64 (y : Int)) := by rw [hcell', List.getElem_map, hy]; rfl
        have HX := Lib.hid hx
        have HY := Lib.hid hy
        clear hx hy hcell hcell'
        have hlti : (k : Int) < (n : Int) := by omega
        by_cases hxy : x = y
        · subst hxy
          have d2 : ((x : Int) != (x : Int)) = false := by simp
          go_wp2
          go_quiet (fail)
          go_wp2
          go_roundw
          case rel =>
            refine ⟨k + 1, by go_num, by omega, ?_, below_drewN hbr _⟩
            rw [List.take_succ_eq_append_getElem hkl, List.take_succ_eq_append_getElem hkm, HE.out, ← HX.out, ← HY.out]
          case measure => simp [intOf]; omega
        · have d2 : ((x : Int) != (y : Int)) = true := by simpa using (fun h => hxy (by omega))
          have hne : (l == m) = false := by
            rw [beq_eq_false_iff_ne]
            intro h
            subst h
            exact hxy (by rw [HX.out, HY.out])
          go_wp2
          go_quiet (fail)
          go_wp2
          go_ret
          exact ⟨ret_bool hne.symm, below_drewN hbr _⟩
      · obtain rfl : k = n := by omega
        have heq : (l == m) = true := by
          rw [beq_iff_eq]
          have h1 := HE.out
          rw [List.take_of_length_le (by have := HN.out; omega), List.take_of_length_le (by have := HN'.out; omega)] at h1
          exact h1
        have HQ := Lib.hid heq
        clear heq
        go_wp2
        go_ret
        exact ⟨ret_bool HQ.out.symm, hbr⟩
  · have d1 : ((n : Int) != (n' : Int)) = true := by simpa using (fun h => hnn (by omega))
    have hne : (l == m) = false := by
      rw [beq_eq_false_iff_ne]
      intro h
      subst h
      exact hnn (by rw [← HN.out, ← HN'.out])
    have HQ := Lib.hid hne
    clear hne
    go_enter Tryd.func18, Tryd.ntmps18
    go_wp2
    go_ret
    exact ⟨ret_bool HQ.out.symm, Below.refl _ _⟩
theorem same_is {l m : List Nat} {u v : Value} {w : World} (hl : IsU l u w) (hm : IsU m v w) (h1 : l.length ≤ 1000000) (h2 : m.length ≤ 1000000) :
    Calls Tryd.prog 18 #[u, v] w fun e w' => e = .returned (.bool (l == m)) ∧ Below w.heap.size w w' := by
  obtain ⟨A, c, rfl, _, _, _, h3⟩ := hl
  obtain ⟨B, c', rfl, _, _, _, h4⟩ := hm
  exact same_any A B _ c _ c' l m w rfl rfl h1 h2 h3 h4
end Go.Proofs.YtiapopaggpnceaaDoor
