
/- Contracts of widths.Bits and Most, and of the reference's. -/

import Derived.Test.YtiapopaggpnceaaDoorWLeaf

namespace Go.Proofs.YtiapopaggpnceaaDoor

open Go.RowKit

theorem bits_any (x : Nat) (w : World) (h : x < 2 ^ 64) :
    Calls Tryd.prog 44 #[.int .u64 (x : Int)] w fun e w' => e = .returned (.int .i64 (wbits x : Int)) ∧ w = w' := by
  have hc := Tryd.bits_Len64 (x : Int)
  rw [Int.toNat_natCast] at hc
  have HC := Lib.hid hc
  clear hc
  have H := Lib.hid h
  clear h
  go_enter Tryd.func44, Tryd.ntmps44
  go_wp2_with (go_at_call 52; refine (HC.out _ (by omega) (by have := H.out; omega)).mono ?_; rintro e w' ⟨rfl, rfl⟩)
  go_ret
  exact ⟨rfl, rfl⟩
def RBitsRel (x : Nat) (v n : Value) : Prop := ∃ y m : Nat, v = .int .u64 y ∧ n = .int .i64 m ∧ y ≤ x ∧ m + wbits y = wbits x
theorem rbits_any (x : Nat) (w : World) (h : x < 2 ^ 64) :
    Calls Tryd.prog 49 #[.int .u64 (x : Int)] w fun e w' => e = .returned (.int .i64 (wbits x : Int)) ∧ w = w' := by
  have H64 := Lib.hid (wbits_64 h)
  have H := Lib.hid h
  clear h
  go_enter Tryd.func49, Tryd.ntmps49
  go_wp2
  go_loop [0, 3] (RBitsRel x) (fun v _ => (intOf v).toNat)
  case atStart => exact ⟨x, 0, rfl, rfl, Nat.le_refl _, by simp⟩
  case round =>
    obtain ⟨y, m, rfl, rfl, hy, he⟩ := hrel
    have HE := Lib.hid he
    clear he
    have hm : m ≤ 64 := by have := HE.out; have := H64.out; omega
    by_cases h0 : 0 < y
    · have HW : Hid (IntKind.u64.wrap ((y : Int) / 2) = ((y / 2 : Nat) : Int)) := Lib.hid (by have := H.out; rw [IntKind.wrap_u64]; omega)
      go_wp2
      go_round
      case rel =>
        refine ⟨y / 2, m + 1, by rw [HW.out], by go_num, by omega, ?_⟩
        have := wbits_half (x := y) (by omega) (by have := H.out; omega)
        have := HE.out
        omega
      case measure => simp only [intOf, HW.out, Int.toNat_natCast]; omega
    · obtain rfl : y = 0 := by omega
      go_wp2
      go_ret
      exact ⟨ret_int (by have := HE.out; rw [wbits_zero] at this; omega), rfl⟩

def MostRel (l : List Nat) (a i : Value) : Prop := ∃ k : Nat, k ≤ l.length ∧ i = .int .i64 k ∧ a = .int .u64 (wall (l.take k) : Nat)
theorem most_any (A : Option Addr) (n c : Nat) (l : List Nat) (w : World) (hA : A = none → n = 0) (hn : l.length = n) (hc : n ≤ c) (hm : n ≤ 1000000) (hl : Lies w A (l.map uv)) (h : ∀ x ∈ l, x < 2 ^ 64) :
    Calls Tryd.prog 32 #[.slice A n c] w fun e w' => e = .returned (.int .i64 (wmost l : Int)) ∧ w = w' := by
  have H := Lib.hid h
  have HN := Lib.hid hn
  clear h hn
  go_enter Tryd.func32, Tryd.ntmps32
  go_wp2
  go_loop [3, 8] (MostRel l) (fun _ i => n - (intOf i).toNat)
  case atStart => exact ⟨0, by omega, rfl, rfl⟩
  case round =>
    obtain ⟨k, hk, rfl, rfl⟩ := hrel
    have hk' : k ≤ n := by have := HN.out; omega
    have ht := wall_lt (l := l.take k) fun x hx => H.out x (List.mem_of_mem_take hx)
    by_cases hlt : k < n
    · have hkl : k < l.length := by have := HN.out; omega
      obtain ⟨ad, rfl, _, hcell⟩ := hl.cell (k := k) (by simpa using hkl)
      obtain ⟨x, hx⟩ : ∃ x : Nat, x = l[k] := ⟨_, rfl⟩
      have hcx : w.cell? (ad.add k) = some (.int .u64 (x : Int)) := by rw [hcell, List.getElem_map, hx]; rfl
      have hx64 : x < 2 ^ 64 := by rw [hx]; exact H.out _ (List.getElem_mem hkl)
      have hs : wall (l.take (k + 1)) = wall (l.take k) ||| x := by rw [List.take_succ_eq_append_getElem hkl, wall_snoc, hx]
      have ho := u64_or (wall (l.take k) : Int) (x : Int) (by omega) (by omega) (by omega) (by omega)
      rw [Int.toNat_natCast, Int.toNat_natCast] at ho
      have HS := Lib.hid hs
      have HX := Lib.hid hx
      clear hs hx hcell
      generalize wall (l.take k) = y at *
      have HT := Lib.hid ht
      have HX64 := Lib.hid hx64
      clear ht hx64
      go_wp2
      go_round
      case rel => exact ⟨k + 1, by omega, by go_num, by rw [HS.out]⟩
      case measure => simp [intOf]; omega
    · obtain rfl : k = n := by omega
      have hb := bits_any (wall (l.take k)) w ht
      rw [wall_bits (fun x hx => H.out x (List.mem_of_mem_take hx)), List.take_of_length_le (by have := HN.out; omega)] at hb
      have HB := Lib.hid hb
      clear hb ht
      rw [List.take_of_length_le (by have := HN.out; omega)] at *
      go_wp2_with (go_at_call 44; refine HB.out.mono ?_; rintro e w' ⟨rfl, rfl⟩)
      go_ret
      exact ⟨rfl, rfl⟩
def RMostRel (l : List Nat) (a i : Value) : Prop := ∃ k : Nat, k ≤ l.length ∧ i = .int .i64 k ∧ a = .int .i64 (wmost (l.take k) : Nat)
theorem rmost_any (A : Option Addr) (n c : Nat) (l : List Nat) (w : World) (hA : A = none → n = 0) (hn : l.length = n) (hc : n ≤ c) (hm : n ≤ 1000000) (hl : Lies w A (l.map uv)) (h : ∀ x ∈ l, x < 2 ^ 64) :
    Calls Tryd.prog 36 #[.slice A n c] w fun e w' => e = .returned (.int .i64 (wmost l : Int)) ∧ w = w' := by
  have H := Lib.hid h
  have HN := Lib.hid hn
  clear h hn
  go_enter Tryd.func36, Tryd.ntmps36
  go_wp2
  go_loop [3, 4] (RMostRel l) (fun _ i => n - (intOf i).toNat)
  case atStart => exact ⟨0, by omega, rfl, rfl⟩
  case round =>
    obtain ⟨k, hk, rfl, rfl⟩ := hrel
    have hk' : k ≤ n := by have := HN.out; omega
    by_cases hlt : k < n
    · have hkl : k < l.length := by have := HN.out; omega
      obtain ⟨ad, rfl, _, hcell⟩ := hl.cell (k := k) (by simpa using hkl)
      obtain ⟨x, hx⟩ : ∃ x : Nat, x = l[k] := ⟨_, rfl⟩
      have hcx : w.cell? (ad.add k) = some (.int .u64 (x : Int)) := by rw [hcell, List.getElem_map, hx]; rfl
      have hx64 : x < 2 ^ 64 := by rw [hx]; exact H.out _ (List.getElem_mem hkl)
      have hs : wmost (l.take (k + 1)) = max (wmost (l.take k)) (wbits x) := by rw [List.take_succ_eq_append_getElem hkl, wmost_snoc, hx]
      have hb := Lib.hid (fun w => rbits_any x w hx64)
      have HS := Lib.hid hs
      clear hs hx hcell hx64
      generalize wmost (l.take k) = y at *
      generalize wbits x = z at *
      go_wp2_with (go_at_call 49; refine (hb.out _).mono ?_; rintro e w' ⟨rfl, rfl⟩)
      go_round
      case rel => exact ⟨k + 1, by omega, by go_num, by rw [HS.out]; go_num⟩
      case measure => simp [intOf]; omega
    · obtain rfl : k = n := by omega
      rw [List.take_of_length_le (by have := HN.out; omega)]
      go_wp2
      go_ret
      exact ⟨rfl, rfl⟩
end Go.Proofs.YtiapopaggpnceaaDoor
