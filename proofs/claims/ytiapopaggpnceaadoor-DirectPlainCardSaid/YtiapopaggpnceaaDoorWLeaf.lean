
/- Contracts of widths' functions, and of the reference's. -/

import Derived.Test.YtiapopaggpnceaaDoorShelf

import Derived.Test.YtiapopaggpnceaaDoorCom

import Derived.Test.YtiapopaggpnceaaDoorWPlain

import Derived.Test.YtiapopaggpnceaaDoorTab

namespace Go.Proofs.YtiapopaggpnceaaDoor

open Go.RowKit

/-- The table lies where it was laid. -/
def WTab (w : World) : Prop := ∃ t, Row w 0 t (wtab.map (Value.int .i64))
theorem WTab.below {B : Nat} {w w' : World} (h : WTab w) (hb : Below B w w') (hB : 0 < B) : WTab w' := h.elim fun t h => ⟨t, h.below hb hB⟩
theorem WTab.lt {w : World} (h : WTab w) : 0 < w.heap.size := h.elim fun _ h => h.lt
theorem WTab.cell {w : World} (h : WTab w) {i : Nat} (hi : i < 32) : w.cell? ⟨0, i, none⟩ = some (.int .i64 (wat i)) := by
  obtain ⟨t, h⟩ := h
  rw [h.cell, List.getElem?_map, wat_get hi]; rfl

theorem of_any (c : Int) (w : World) (ht : WTab w) (h0 : -9223372036854775808 ≤ c) (h1 : c ≤ 9223372036854775807) :
    Calls Tryd.prog 25 #[.int .i64 c] w fun e w' => e = .returned (.int .i64 (wof c)) ∧ w = w' := by
  rcases (by omega : c < 0 ∨ 32 ≤ c ∨ (0 ≤ c ∧ c < 32)) with h | h | h
  · have e := Lib.hid (wof_out (c := c) (by omega))
    go_enter Tryd.func25, Tryd.ntmps25
    go_wp2
    go_ret
    exact ⟨ret_int e.out.symm, rfl⟩
  · have e := Lib.hid (wof_out (c := c) (by omega))
    have h2 : decide (c < 0) = false := by simp; omega
    go_enter Tryd.func25, Tryd.ntmps25
    go_wp2
    go_ret
    exact ⟨ret_int e.out.symm, rfl⟩
  · obtain ⟨n, rfl⟩ : ∃ n : Nat, c = n := ⟨c.toNat, by omega⟩
    have hn : n < 32 := by omega
    have e := Lib.hid (wof_in hn)
    have hc := ht.cell hn
    clear h
    go_enter Tryd.func25, Tryd.ntmps25
    go_wp2
    go_ret
    exact ⟨ret_int e.out.symm, rfl⟩
theorem rof_any (c : Int) (w : World) (h0 : -9223372036854775808 ≤ c) (h1 : c ≤ 9223372036854775807) :
    Calls Tryd.prog 41 #[.int .i64 c] w fun e w' => e = .returned (.int .i64 (wof c)) ∧ w = w' := by
  rcases (by omega : c < 0 ∨ 31 < c ∨ (0 ≤ c ∧ c ≤ 31)) with h | h | h
  · have e := Lib.hid (wof_out (c := c) (by omega))
    go_enter Tryd.func41, Tryd.ntmps41
    go_wp2
    go_ret
    exact ⟨ret_int e.out.symm, rfl⟩
  · have e := Lib.hid (wof_out (c := c) (by omega))
    have h2 : decide (c < 0) = false := by simp; omega
    go_enter Tryd.func41, Tryd.ntmps41
    go_wp2
    go_ret
    exact ⟨ret_int e.out.symm, rfl⟩
  · obtain ⟨n, rfl⟩ : ∃ n : Nat, c = n := ⟨c.toNat, by omega⟩
    have hn : n < 32 := by omega
    have e := Lib.hid ((wof_in hn).trans (rof_eq ⟨n, hn⟩))
    rcases (by omega : n < 24 ∨ (24 ≤ n ∧ n < 28) ∨ 28 ≤ n) with h3 | ⟨h3, h4⟩ | h3
    · go_enter Tryd.func41, Tryd.ntmps41
      go_wp2
      go_ret
      exact ⟨ret_int (by rw [e.out, if_pos h3]), rfl⟩
    · have h5 : ¬ n < 24 := by omega
      go_enter Tryd.func41, Tryd.ntmps41
      go_wp2
      go_ret
      exact ⟨ret_int (by rw [e.out, if_neg h5, if_pos h4]), rfl⟩
    · have h5 : ¬ n < 24 := by omega
      have h6 : ¬ n < 28 := by omega
      go_enter Tryd.func41, Tryd.ntmps41
      go_wp2
      go_ret
      exact ⟨ret_int (by rw [e.out, if_neg h5, if_neg h6]), rfl⟩

def codeRel (x : Int) (i : Value) : Prop := ∃ k : Nat, i = .int .i64 k ∧ k ≤ 32 ∧ ∀ j, j < k → wat j ≠ x
theorem code_any (x : Int) (w : World) (ht : WTab w) :
    Calls Tryd.prog 34 #[.int .i64 x] w fun e w' => e = .returned (.int .i64 (wcode x)) ∧ w = w' := by
  have hi := fun (k : Nat) (hk : k < 32) => run_index_array (P := Tryd.prog) w 63 3 32 (wtab.map (Value.int .i64)) .i64 k Tryd.underlying63 hk (fun _ => by kernel_rfl) (fun _ => by kernel_rfl) (.int .i64 (wat k)) (by rw [List.getElem?_map, wat_get hk]; rfl)
  have HI := Lib.hid hi
  clear hi
  obtain ⟨t, hrow⟩ := ht
  have hblk : w.heap[0]? = some (.cells (wtab.map (Value.int .i64)).toArray t (0, 0)) := hrow
  clear hrow
  generalize hcs : (wtab.map (Value.int .i64)).toArray = cs at HI hblk
  have hsz : cs.size = 32 := by rw [← hcs]; rfl
  have HR := Lib.hid hblk
  have HZ := Lib.hid hsz
  clear hcs hsz hblk
  go_enter Tryd.func34, Tryd.ntmps34
  go_wp2_with (refine wpList_load_row rfl 63 (.global 0) rfl 0 rfl t cs (0, 0) _ HR.out Tryd.underlying63 rfl (by rw [HZ.out]; kernel_rfl) ?_)
  go_loop [6] (codeRel x) (fun i => 32 - (intOf i).toNat)
  case atStart => exact ⟨0, rfl, by omega, fun j hj => by omega⟩
  case round =>
    obtain ⟨k, rfl, hk, hb⟩ := hrel
    have HB := Lib.hid hb
    clear hb
    by_cases hlt : k < 32
    · have hx := HI.out k hlt
      have hw := wat_bd k
      by_cases hq : wat k = x
      · have HQ := Lib.hid hq
        have hq' : (wat k == x) = true := by simpa using hq
        clear hq
        go_wp2
        go_ret
        exact ⟨ret_int (wcode_at hlt HQ.out HB.out).symm, rfl⟩
      · have HQ : Hid (wat k ≠ x) := Lib.hid (by omega)
        have hq' : (wat k == x) = false := by simpa using hq
        clear hq
        go_wp2
        go_round
        case rel => exact ⟨k + 1, by go_num, by omega, fun j hj => by rcases (by omega : j < k ∨ j = k) with h | rfl; exact HB.out j h; exact HQ.out⟩
        case measure => simp [intOf]; omega
    · obtain rfl : k = 32 := by omega
      go_wp2
      go_ret
      exact ⟨ret_int (wcode_none HB.out).symm, rfl⟩
theorem rcode_any (x : Int) (w : World) :
    Calls Tryd.prog 38 #[.int .i64 x] w fun e w' => e = .returned (.int .i64 (wcode x)) ∧ w = w' := by
  go_enter Tryd.func38, Tryd.ntmps38
  go_wp2
  go_loop [3] (codeRel x) (fun i => 32 - (intOf i).toNat)
  case atStart => exact ⟨0, rfl, by omega, fun j hj => by omega⟩
  case round =>
    obtain ⟨k, rfl, hk, hb⟩ := hrel
    have HB := Lib.hid hb
    clear hb
    by_cases hlt : k < 32
    · have hw := wat_bd k
      have hof := rof_any (k : Int)
      rw [wof_in hlt] at hof
      have HO := Lib.hid hof
      clear hof
      by_cases hq : wat k = x
      · have HQ := Lib.hid hq
        have hq' : (wat k == x) = true := by simpa using hq
        clear hq
        go_wp2_with (go_at_call 41; refine (HO.out _ (by omega) (by omega)).mono ?_; rintro e w' ⟨rfl, rfl⟩)
        go_ret
        exact ⟨ret_int (wcode_at hlt HQ.out HB.out).symm, rfl⟩
      · have HQ : Hid (wat k ≠ x) := Lib.hid (by omega)
        have hq' : (wat k == x) = false := by simpa using hq
        clear hq
        go_wp2_with (go_at_call 41; refine (HO.out _ (by omega) (by omega)).mono ?_; rintro e w' ⟨rfl, rfl⟩)
        go_round
        case rel => exact ⟨k + 1, by go_num, by omega, fun j hj => by rcases (by omega : j < k ∨ j = k) with h | rfl; exact HB.out j h; exact HQ.out⟩
        case measure => simp [intOf]; omega
    · obtain rfl : k = 32 := by omega
      go_wp2
      go_ret
      exact ⟨ret_int (wcode_none HB.out).symm, rfl⟩

def closestRel (x : Int) (i : Value) : Prop := ∃ k : Nat, i = .int .i64 k ∧ k ≤ 32 ∧ ∀ j, j < k → wat j < x
theorem closest_any (x : Int) (w : World) (ht : WTab w) :
    Calls Tryd.prog 31 #[.int .i64 x] w fun e w' => e = .returned (.int .i64 (wclosest x)) ∧ w = w' := by
  have hi := fun (k : Nat) (hk : k < 32) => run_index_array (P := Tryd.prog) w 63 3 32 (wtab.map (Value.int .i64)) .i64 k Tryd.underlying63 hk (fun _ => by kernel_rfl) (fun _ => by kernel_rfl) (.int .i64 (wat k)) (by rw [List.getElem?_map, wat_get hk]; rfl)
  have HI := Lib.hid hi
  clear hi
  obtain ⟨t, hrow⟩ := ht
  have hblk : w.heap[0]? = some (.cells (wtab.map (Value.int .i64)).toArray t (0, 0)) := hrow
  clear hrow
  generalize hcs : (wtab.map (Value.int .i64)).toArray = cs at HI hblk
  have hsz : cs.size = 32 := by rw [← hcs]; rfl
  have HR := Lib.hid hblk
  have HZ := Lib.hid hsz
  clear hcs hsz hblk
  go_enter Tryd.func31, Tryd.ntmps31
  go_wp2_with (refine wpList_load_row rfl 63 (.global 0) rfl 0 rfl t cs (0, 0) _ HR.out Tryd.underlying63 rfl (by rw [HZ.out]; kernel_rfl) ?_)
  go_loop [6] (closestRel x) (fun i => 32 - (intOf i).toNat)
  case atStart => exact ⟨0, rfl, by omega, fun j hj => by omega⟩
  case round =>
    obtain ⟨k, rfl, hk, hb⟩ := hrel
    have HB := Lib.hid hb
    clear hb
    by_cases hlt : k < 32
    · have hx := HI.out k hlt
      have hw := wat_bd k
      by_cases hq : x ≤ wat k
      · have HQ := Lib.hid hq
        have hq' : decide (x ≤ wat k) = true := by simpa using hq
        clear hq
        go_wp2
        go_ret
        exact ⟨ret_int (wclosest_at hlt HQ.out HB.out).symm, rfl⟩
      · have HQ : Hid (wat k < x) := Lib.hid (by omega)
        have hq' : decide (x ≤ wat k) = false := by simpa using hq
        clear hq
        go_wp2
        go_round
        case rel => exact ⟨k + 1, by go_num, by omega, fun j hj => by rcases (by omega : j < k ∨ j = k) with h | rfl; exact HB.out j h; exact HQ.out⟩
        case measure => simp [intOf]; omega
    · obtain rfl : k = 32 := by omega
      go_wp2
      go_ret
      exact ⟨ret_int (wclosest_none HB.out).symm, rfl⟩
theorem rclosest_any (x : Int) (w : World) :
    Calls Tryd.prog 35 #[.int .i64 x] w fun e w' => e = .returned (.int .i64 (wclosest x)) ∧ w = w' := by
  go_enter Tryd.func35, Tryd.ntmps35
  go_wp2
  go_loop [3] (closestRel x) (fun i => 32 - (intOf i).toNat)
  case atStart => exact ⟨0, rfl, by omega, fun j hj => by omega⟩
  case round =>
    obtain ⟨k, rfl, hk, hb⟩ := hrel
    have HB := Lib.hid hb
    clear hb
    by_cases hlt : k < 32
    · have hw := wat_bd k
      have hof := rof_any (k : Int)
      rw [wof_in hlt] at hof
      have HO := Lib.hid hof
      clear hof
      by_cases hq : x ≤ wat k
      · have HQ := Lib.hid hq
        have hq' : decide (x ≤ wat k) = true := by simpa using hq
        clear hq
        go_wp2_with (go_at_call 41; refine (HO.out _ (by omega) (by omega)).mono ?_; rintro e w' ⟨rfl, rfl⟩)
        go_ret
        exact ⟨ret_int (wclosest_at hlt HQ.out HB.out).symm, rfl⟩
      · have HQ : Hid (wat k < x) := Lib.hid (by omega)
        have hq' : decide (x ≤ wat k) = false := by simpa using hq
        clear hq
        go_wp2_with (go_at_call 41; refine (HO.out _ (by omega) (by omega)).mono ?_; rintro e w' ⟨rfl, rfl⟩)
        go_round
        case rel => exact ⟨k + 1, by go_num, by omega, fun j hj => by rcases (by omega : j < k ∨ j = k) with h | rfl; exact HB.out j h; exact HQ.out⟩
        case measure => simp [intOf]; omega
    · obtain rfl : k = 32 := by omega
      go_wp2
      go_ret
      exact ⟨ret_int (wclosest_none HB.out).symm, rfl⟩

end Go.Proofs.YtiapopaggpnceaaDoor
