
/- Contracts of byterle's small functions: repeats, first, standing, and a part's head and size. -/

import Derived.Test.YtffglnccpbbclaaYRTake

import Derived.Test.YtffglnccpbbclaaStr

namespace Go.Proofs.Ytffglnccpbbclaa

open Go.RowKit

theorem ysame_step0 {l : List UInt8} {k : Nat} (ha : 0 < l.length) (hk : 1 ≤ k) (h : k ≤ ysame l) :
    (k = l.length → ysame l = k) ∧ (k = 130 → ysame l = k) ∧ (∀ h' : k < l.length, k < 130 → (l[k] = l[0] → k + 1 ≤ ysame l) ∧ (l[k] ≠ l[0] → ysame l = k)) := by
  have := ysame_step (l := l) (a := 0) ha hk (by simpa using h)
  simpa using this

def RepRel (l : List UInt8) (w : World) (v : Value) (wr : World) : Prop := ∃ k q : Nat, v = .int .i64 (k : Int) ∧ 1 ≤ k ∧ k ≤ ysame l ∧ wr = w.drewN q
def RepPost (l : List UInt8) (w : World) (e : Ending) (w' : World) : Prop := e = .returned (.int .i64 (ysame l : Int)) ∧ ∃ q, w' = w.drewN q
set_option maxHeartbeats 1000000 in
set_option maxRecDepth 100000 in
theorem repeats_any (A : Option Addr) (n c : Nat) (l : List UInt8) (w : World) (hn : l.length = n) (hb : n ≤ 1000000) (h0 : 0 < n) (hl : Lies w A (l.map bv)) :
    Calls Try.prog 54 #[.slice A n c] w (RepPost l w) := by
  have hal : 0 < l.length := by omega
  obtain ⟨ad, rfl, _, hcell⟩ := hl.cell (k := 0) (by rw [List.length_map]; exact hal)
  have HL := Lib.hid hl
  obtain ⟨x, hx⟩ : ∃ x : Nat, x = l[0].toNat := ⟨_, rfl⟩
  have hcx : ∀ q, (w.drewN q).cell? ad = some (.int .u8 (x : Int)) := fun q => by
    have e : ad.add 0 = ad := by simp [Addr.add]
    rw [e] at hcell
    show w.cell? _ = _
    rw [hcell, List.getElem_map, hx]; rfl
  have HC := Lib.hid hcx
  have HX := Lib.hid hx
  have HN := Lib.hid hn
  have hpos : 1 ≤ ysame l := ysame_pos (by intro h; rw [h] at hal; simp at hal)
  have hsl := ysame_le l
  rw [hn] at hsl
  have hs130 := ysame_130 l
  obtain ⟨m, hm⟩ : ∃ m, m = min n 130 := ⟨_, rfl⟩
  have hmin : ∀ (ts : Array TypeId) (t : TypeId) (W : World), (Builtin.min_ ts t #[.int .i64 (n : Int), .int .i64 130]).run Try.prog W = .ok (.int .i64 (m : Int)) W := fun ts t W => by
    rw [run_min_int2]
    congr 2
    split <;> omega
  have HM := Lib.hid hm
  clear hn hl hcell hx hcx hm
  go_enter Try.func54, Try.ntmps54
  go_wp2
  go_loopw [3] (RepRel l w) (fun v _ => 131 - (intOf v).toNat)
  case atStart => exact ⟨1, 0, rfl, Nat.le_refl _, hpos, rfl⟩
  case round =>
    obtain ⟨k, q0, rfl, hk1, hk, hw⟩ := hrel
    have HW := Lib.hid hw
    clear hw
    have hst := ysame_step0 (l := l) (k := k) hal hk1 hk
    have HST := Lib.hid hst
    have hcx : wr.cell? ad = some (.int .u8 (x : Int)) := by rw [HW.out]; exact HC.out q0
    clear hst hpos
    by_cases h1 : k < m
    · have d1 : decide (k < m) = true := decide_eq_true h1
      have h1n : (k : Int) < (n : Int) := by have := HM.out; omega
      have h0n : (0 : Int) < (n : Int) := by omega
      have h130 : k < 130 := by have := HM.out; omega
      have hkl : k < l.length := by have := HN.out; have := HM.out; omega
      obtain ⟨_, had, _, hcell⟩ := HL.out.cell (k := k) (by rw [List.length_map]; exact hkl)
      injection had with had
      subst had
      obtain ⟨y, hy⟩ : ∃ y : Nat, y = l[k].toNat := ⟨_, rfl⟩
      have hcy : wr.cell? (ad.add k) = some (.int .u8 (y : Int)) := by
        rw [HW.out]
        show w.cell? _ = _
        rw [hcell, List.getElem_map, hy]; rfl
      have HY := Lib.hid hy
      clear hy hcell
      by_cases hxy : y = x
      · subst hxy
        have d3 : ((y : Int) == (y : Int)) = true := by simp
        have hnext : k + 1 ≤ ysame l := by
          have h3 := (HST.out.2.2 hkl h130).1
          refine h3 (UInt8.toNat_inj.1 ?_)
          rw [← HX.out, ← HY.out]
        go_wp2
        go_quiet (fail)
        go_wp2
        go_roundw
        case rel => exact ⟨k + 1, _, by go_num, by omega, hnext, by rw [HW.out]; exact World.drewN_drewN _ _ _⟩
        case measure => simp [intOf]; omega
      · have d3 : ((y : Int) == (x : Int)) = false := by simpa using (fun h => hxy (by omega))
        have hend : ysame l = k := by
          have h3 := (HST.out.2.2 hkl h130).2
          refine h3 fun h => hxy ?_
          rw [HX.out, HY.out, h]
        have HE := Lib.hid hend
        clear hend
        go_wp2
        go_quiet (fail)
        go_wp2
        go_ret
        exact ⟨ret_int (by rw [HE.out]), _, by rw [HW.out]; exact World.drewN_drewN _ _ _⟩
    · have d1 : decide (k < m) = false := decide_eq_false h1
      have HE : Hid (ysame l = k) := Lib.hid (by
        have := HM.out
        have := HN.out
        by_cases h2 : k = 130
        · exact HST.out.2.1 h2
        · exact HST.out.1 (by omega))
      go_wp2
      go_quiet (fail)
      go_wp2
      go_ret
      exact ⟨ret_int (by rw [HE.out]), _, by rw [HW.out]; exact World.drewN_drewN _ _ _⟩

/-- A part's first byte. -/
def phead (n t : Nat) : Nat := if 3 ≤ t then t - 3 else 256 - n
set_option maxHeartbeats 1000000 in
set_option maxRecDepth 100000 in
theorem head_any (A : Option Addr) (n c t : Nat) (w : World) (hn : 1 ≤ n) (hn2 : n ≤ 256) (ht : t ≤ 200) :
    Calls Try.prog 44 #[.agg #[.slice A n c, .int .i64 (t : Int)]] w (fun e w' => e = .returned (.int .u8 (phead n t : Int)) ∧ Below w.heap.size w w') := by
  by_cases h3 : 3 ≤ t
  · obtain ⟨s, hs⟩ : ∃ s, s = t - 3 := ⟨_, rfl⟩
    have hp : phead n t = s := by unfold phead; rw [if_pos h3]; omega
    have hsw : (t : Int) - 3 = (s : Int) := by omega
    have hsu : IntKind.u8.wrap (s : Int) = (s : Int) := by rw [IntKind.wrap_u8]; omega
    have HP := Lib.hid hp
    clear hp hs
    go_enter Try.func44, Try.ntmps44
    go_wp2
    go_ret
    exact ⟨ret_int (by rw [HP.out]), (Below.refl _ _).alloc (Nat.le_refl _) _⟩
  · obtain ⟨s, hs⟩ : ∃ s, s = 256 - n := ⟨_, rfl⟩
    have hp : phead n t = s := by unfold phead; rw [if_neg h3]; omega
    have hsw : 256 - (n : Int) = (s : Int) := by omega
    have hsu : IntKind.u8.wrap (s : Int) = (s : Int) := by rw [IntKind.wrap_u8]; omega
    have d0 : decide ((3 : Int) ≤ (t : Int)) = false := decide_eq_false (by omega)
    have HP := Lib.hid hp
    clear hp hs
    go_enter Try.func44, Try.ntmps44
    go_wp2
    go_ret
    exact ⟨ret_int (by rw [HP.out]), (Below.refl _ _).alloc (Nat.le_refl _) _⟩
set_option maxHeartbeats 1000000 in
set_option maxRecDepth 100000 in
theorem ysize_any (A : Option Addr) (n c : Nat) (t : Value) (w : World) (hn : n ≤ 1000) :
    Calls Try.prog 49 #[.agg #[.slice A n c, t]] w (fun e w' => e = .returned (.int .i64 ((1 + n : Nat) : Int)) ∧ Below w.heap.size w w') := by
  go_enter Try.func49, Try.ntmps49
  go_wp2
  go_ret
  exact ⟨ret_int (by go_num), (Below.refl _ _).alloc (Nat.le_refl _) _⟩

/-- The part that bytes begin with when they are laid down: how many bytes, how often. -/
def plen (l : List UInt8) : Nat := if 3 ≤ ysame l then 1 else ylist l 0
def ptimes (l : List UInt8) : Nat := if 3 ≤ ysame l then ysame l else 1
/-- The function's own result, in a block of its own, below which nothing turns. -/
def FirstPost (A : Option Addr) (l : List UInt8) (c : Nat) (w : World) (e : Ending) (w' : World) : Prop :=
  e = .returned (.agg #[.slice A (plen l) c, .int .i64 (ptimes l : Int)]) ∧ Below w.heap.size w w'
def FirstRel (l : List UInt8) (w0 : World) (v : Value) (wr : World) : Prop := ∃ k : Nat, v = .int .i64 (k : Int) ∧ 1 ≤ k ∧ k ≤ 128 ∧ k ≤ l.length ∧ ylist (l.drop k) k = ylist l 0 ∧ ∃ q, wr = w0.drewN q
theorem ylist_end {l : List UInt8} {k : Nat} (h : k = l.length) : ylist (l.drop k) k = k := by
  subst h
  rw [List.drop_length, ylist]
set_option maxHeartbeats 4000000 in
set_option maxRecDepth 100000 in
theorem first_any (A : Option Addr) (n c : Nat) (l : List UInt8) (w : World) (hn : l.length = n) (hb : n ≤ 1000000) (h0 : 0 < n) (hnc : n ≤ c) (hcm : c ≤ maxLen) (hl : Lies w A (l.map bv)) :
    Calls Try.prog 51 #[.slice A n c] w (FirstPost A l c w) := by
  have hci : (c : Int) ≤ 9223372036854775807 := by unfold maxLen at hcm; omega
  have hal : 0 < l.length := by omega
  obtain ⟨ad, hAd, _, _⟩ := hl.cell (k := 0) (by rw [List.length_map]; exact hal)
  have HR := Lib.hid fun (W : World) (h : Lies W A (l.map bv)) => repeats_any A n c l W hn hb h0 h
  have HD := Lib.hid fun (k : Nat) (W : World) (hk : k < n) (h : Lies W (A.map (·.add k)) ((l.drop k).map bv)) => repeats_any (A.map (·.add k)) (n - k) (c - k) (l.drop k) W (by rw [List.length_drop]; omega) (by omega) (by omega) h
  have HP := Lib.hid fun (k : Nat) (W : World) (hk : k < n) (h : Lies W A (l.map bv)) => (show Lies W (A.map (·.add k)) ((l.drop k).map bv) by
    have := h.drop (k := k) (cap := c) (by rw [List.length_map]; omega)
    rw [if_neg (by omega)] at this
    rw [List.map_drop]; exact this)
  have HN := Lib.hid hn
  have HL := Lib.hid hl
  obtain ⟨s, hs⟩ : ∃ s, s = ysame l := ⟨_, rfl⟩
  have HS := Lib.hid hs
  have hb1 : Below w.heap.size w (w.alloc (.cells #[.slice none 0 0, .int .i64 0] 70)) := (Below.refl _ _).alloc (Nat.le_refl _) _
  have hl1 := hl.below hb1
  have HB1 := Lib.hid hb1
  have hcall := HR.out _ hl1
  have HCL := Lib.hid hcall
  have HL1 := Lib.hid hl1
  clear hn hl hs hb1 hl1 hcall hAd
  go_enter Try.func51, Try.ntmps51
  go_wp2_with fail
  refine HCL.out.mono ?_
  rintro e w1 ⟨rfl, q1, hw1⟩
  rw [← HS.out]
  have hr1 : Row w1 w.heap.size 70 [.slice none 0 0, .int .i64 0] := by rw [hw1]; exact heap_alloc_new w _
  have hl2 : Lies w1 A (l.map bv) := by rw [hw1]; exact HL1.out
  have hb2 : Below w.heap.size w w1 := by rw [hw1]; exact below_drewN HB1.out _
  clear hw1
  by_cases h3 : 3 ≤ s
  · have HB2 := Lib.hid hb2
    have HL2 := Lib.hid hl2
    have hc0 := hr1.cell 0
    have hc1 := hr1.cell 1
    have hf0 := hr1.free 0
    have hf1 := hr1.free 1
    simp only [List.getElem?_cons_zero, List.getElem?_cons_succ] at hc0 hc1
    have HR1 := Lib.hid hr1
    clear hb2 hl2 hr1
    have HE := Lib.hid (show plen l = 1 ∧ ptimes l = s by unfold plen ptimes; rw [← HS.out, if_pos h3, if_pos h3]; exact ⟨rfl, rfl⟩)
    go_wp2
    have hr2 : Row ((w1.setCell ⟨w.heap.size, 0, none⟩ (.slice A 1 c)).setCell ⟨w.heap.size, 1, none⟩ (.int .i64 (s : Int))) w.heap.size 70 [.slice A 1 c, .int .i64 (s : Int)] := (HR1.out.set_ 0 _).set_ 1 _
    refine bodyPost_ret (results_cell_row rfl _ _ _ _ _ _ _ rfl hr2 Try.underlying70 rfl (by kernel_rfl)) rfl ⟨?_, (HB2.out.setCell (Nat.le_refl _) _).setCell (Nat.le_refl _) _⟩
    rw [HE.out.1, HE.out.2]
  · have d0 : decide ((3 : Int) ≤ (s : Int)) = false := decide_eq_false (by omega)
    obtain ⟨m, hm⟩ : ∃ m, m = min n 128 := ⟨_, rfl⟩
    have hmin : ∀ (ts : Array TypeId) (t : TypeId) (W : World), (Builtin.min_ ts t #[.int .i64 (n : Int), .int .i64 128]).run Try.prog W = .ok (.int .i64 (m : Int)) W := fun ts t W => by
      rw [run_min_int2]
      congr 2
      split <;> omega
    have hmn : m ≤ n := by omega
    have HM := Lib.hid hm
    have hr1' : FirstRel l w1 (.int .i64 1) w1 := by
      refine ⟨1, rfl, Nat.le_refl _, by omega, by omega, ?_, 0, rfl⟩
      cases l with
      | nil => simp at hal
      | cons x l => rw [ylist, if_pos ⟨by omega, by have := HS.out; omega⟩]; rfl
    have HB2 := Lib.hid hb2
    have HL2 := Lib.hid hl2
    have HR1 := Lib.hid hr1
    have HE := Lib.hid (show plen l = ylist l 0 ∧ ptimes l = 1 by unfold plen ptimes; rw [← HS.out, if_neg h3, if_neg h3]; exact ⟨rfl, rfl⟩)
    clear hb2 hl2 hr1 hm
    go_wp2
    go_loopw [4] (FirstRel l w1) (fun v _ => 129 - (intOf v).toNat)
    case atStart => exact hr1'
    case round =>
      obtain ⟨k, rfl, hk1, hk128, hkl, hyl, q, hw⟩ := hrel
      have HY := Lib.hid hyl
      have hlr : Lies wr A (l.map bv) := by rw [hw]; exact HL2.out
      have HW := Lib.hid hw
      clear hyl hr1' hw
      by_cases h1 : k < m
      · have d1 : decide (k < m) = true := decide_eq_true h1
        have h1n : k < n := by omega
        have h1i : (k : Int) ≤ (n : Int) := by omega
        have h1c : (k : Int) ≤ (c : Int) := by omega
        have hkc : ¬ c = k := by omega
        have hcall := HD.out k wr h1n (HP.out k wr h1n hlr)
        obtain ⟨T, hT⟩ : ∃ T, T = ysame (l.drop k) := ⟨_, rfl⟩
        have HT := Lib.hid hT
        have HC := Lib.hid hcall
        clear hlr hcall hT
        by_cases h5 : T < 3
        · have d3 : decide ((T : Int) < 3) = true := decide_eq_true (by omega)
          have HS2 := Lib.hid (show ylist (l.drop (k + 1)) (k + 1) = ylist l 0 by
            have h6 := HY.out
            rw [ylist_at (by have := HN.out; omega), if_pos ⟨by have := HM.out; omega, by rw [← HT.out]; exact h5⟩] at h6
            exact h6)
          go_wp2_with fail
          refine HC.out.mono ?_
          rintro e w2 ⟨rfl, q2, hw2⟩
          rw [← HT.out]
          have HW2 := Lib.hid hw2
          clear hw2
          go_wp2
          go_roundw
          case rel => exact ⟨k + 1, by go_num, by omega, by have := HM.out; omega, by have := HN.out; omega, HS2.out, q + q2, by rw [HW2.out, HW.out]; exact World.drewN_drewN _ _ _⟩
          case measure => simp [intOf]; omega
        · have d3 : decide ((T : Int) < 3) = false := decide_eq_false (by omega)
          have HS2 := Lib.hid (show plen l = k by
            have h6 := HY.out
            rw [ylist_at (by have := HN.out; omega), if_neg (by rw [← HT.out]; omega)] at h6
            rw [HE.out.1, ← h6])
          go_wp2_with fail
          refine HC.out.mono ?_
          rintro e w2 ⟨rfl, q2, hw2⟩
          rw [← HT.out]
          have hr2 : Row w2 w.heap.size 70 [.slice none 0 0, .int .i64 0] := by rw [hw2, HW.out]; exact HR1.out
          have hc0 := hr2.cell 0
          have hc1 := hr2.cell 1
          have hf0 := hr2.free 0
          have hf1 := hr2.free 1
          simp only [List.getElem?_cons_zero, List.getElem?_cons_succ] at hc0 hc1
          have HR2 := Lib.hid hr2
          have HB3 := Lib.hid (show Below w.heap.size w w2 by rw [hw2, HW.out]; exact below_drewN (below_drewN HB2.out _) _)
          clear hw2 hr2
          go_wp2
          have hr4 : Row ((w2.setCell ⟨w.heap.size, 0, none⟩ (.slice A k c)).setCell ⟨w.heap.size, 1, none⟩ (.int .i64 1)) w.heap.size 70 [.slice A k c, .int .i64 1] := (HR2.out.set_ 0 _).set_ 1 _
          refine bodyPost_ret (results_cell_row rfl _ _ _ _ _ _ _ rfl hr4 Try.underlying70 rfl (by kernel_rfl)) rfl ⟨?_, (HB3.out.setCell (Nat.le_refl _) _).setCell (Nat.le_refl _) _⟩
          rw [HS2.out, HE.out.2]; rfl
      · have d1 : decide (k < m) = false := decide_eq_false h1
        have HS2 := Lib.hid (show plen l = k by
          have h6 := HY.out
          rw [HE.out.1, ← h6]
          have := HM.out
          have := HN.out
          by_cases h7 : k = l.length
          · exact ylist_end h7
          · rw [ylist_at (by omega), if_neg (by omega)])
        have hr2 : Row wr w.heap.size 70 [.slice none 0 0, .int .i64 0] := by rw [HW.out]; exact HR1.out
        have hc0 := hr2.cell 0
        have hc1 := hr2.cell 1
        have hf0 := hr2.free 0
        have hf1 := hr2.free 1
        simp only [List.getElem?_cons_zero, List.getElem?_cons_succ] at hc0 hc1
        have HR2 := Lib.hid hr2
        have HB3 := Lib.hid (show Below w.heap.size w wr by rw [HW.out]; exact below_drewN HB2.out _)
        have hkc2 : (k : Int) ≤ (c : Int) := by have := HN.out; omega
        clear hlr hr2
        go_wp2
        have hr4 : Row ((wr.setCell ⟨w.heap.size, 0, none⟩ (.slice A k c)).setCell ⟨w.heap.size, 1, none⟩ (.int .i64 1)) w.heap.size 70 [.slice A k c, .int .i64 1] := (HR2.out.set_ 0 _).set_ 1 _
        refine bodyPost_ret (results_cell_row rfl _ _ _ _ _ _ _ rfl hr4 Try.underlying70 rfl (by kernel_rfl)) rfl ⟨?_, (HB3.out.setCell (Nat.le_refl _) _).setCell (Nat.le_refl _) _⟩
        rw [HS2.out, HE.out.2]; rfl

/-- The part that stands at the front: how many bytes behind the head, how often. -/
def slen (x : UInt8) : Nat := if x.toNat < 128 then 1 else 256 - x.toNat
def stimes (x : UInt8) : Nat := if x.toNat < 128 then x.toNat + 3 else 1
theorem slen_le (x : UInt8) : 1 ≤ slen x ∧ slen x ≤ 128 := by
  have := x.toNat_lt
  unfold slen
  split <;> omega
theorem stimes_le (x : UInt8) : 1 ≤ stimes x ∧ stimes x ≤ 130 := by
  unfold stimes
  split <;> omega
theorem slen_stimes (x : UInt8) : slen x * stimes x ≤ 130 := by
  have := x.toNat_lt
  unfold slen stimes
  split <;> omega
def StandPost (A : Option Addr) (l : List UInt8) (c : Nat) (w : World) (e : Ending) (w' : World) : Prop :=
  (∃ (h : 0 < l.length), (slen l[0] ≤ l.length - 1 ∧ e = .returned (.tuple #[.agg #[.slice (A.map (·.add 1)) (slen l[0]) (c - 1), .int .i64 (stimes l[0] : Int)], .bool true])) ∨
    (l.length - 1 < slen l[0] ∧ e = .returned (.tuple #[.agg #[.slice none 0 0, .int .i64 0], .bool false]))) ∧ Below w.heap.size w w'
set_option maxHeartbeats 4000000 in
set_option maxRecDepth 100000 in
theorem standing_any (A : Option Addr) (n c : Nat) (l : List UInt8) (w : World) (hn : l.length = n) (hb : n ≤ 1000000) (h0 : 0 < n) (hnc : n ≤ c) (hcm : c ≤ maxLen) (hl : Lies w A (l.map bv)) :
    Calls Try.prog 53 #[.slice A n c] w (StandPost A l c w) := by
  have hci : (c : Int) ≤ 9223372036854775807 := by unfold maxLen at hcm; omega
  have hal : 0 < l.length := by omega
  obtain ⟨x, hx⟩ : ∃ x : Nat, x = l[0].toNat := ⟨_, rfl⟩
  have hx8 : x < 256 := by rw [hx]; exact l[0].toNat_lt
  have hb1 : Below w.heap.size w (w.alloc (.cells #[.slice none 0 0, .int .i64 0] 70)) := (Below.refl _ _).alloc (Nat.le_refl _) _
  obtain ⟨ad, rfl, hadlt, hcell⟩ := hl.cell (k := 0) (by rw [List.length_map]; exact hal)
  have hr1 : Row (w.alloc (.cells #[.slice none 0 0, .int .i64 0] 70)) w.heap.size 70 [.slice none 0 0, .int .i64 0] := heap_alloc_new w _
  have hcx : (w.alloc (.cells #[.slice none 0 0, .int .i64 0] 70)).cell? ad = some (.int .u8 (x : Int)) := by
    have e : ad.add 0 = ad := by simp [Addr.add]
    rw [e] at hcell
    rw [hb1.cell hadlt, hcell, List.getElem_map, hx]; rfl
  obtain ⟨w1, hw1⟩ : ∃ w1, w1 = (w.alloc (.cells #[.slice none 0 0, .int .i64 0] 70)).drew := ⟨_, rfl⟩
  have hN0 : (0 : Int) < (n : Int) := by omega
  have HL := Lib.hid hn
  have HX := Lib.hid hx
  have HB := Lib.hid hb1
  have HR1 := Lib.hid hr1
  clear hn hx hb1 hr1 hl hcell hadlt
  obtain ⟨k, hk⟩ : ∃ k, k = slen l[0] := ⟨_, rfl⟩
  obtain ⟨t, ht⟩ : ∃ t, t = stimes l[0] := ⟨_, rfl⟩
  have hk1 : 1 ≤ k ∧ k ≤ 128 := by rw [hk]; exact slen_le _
  have hk2 : 1 ≤ k := hk1.1
  have hk3 : k ≤ 128 := hk1.2
  have ht2 : t ≤ 130 := by rw [ht]; exact (stimes_le _).2
  have HK := Lib.hid hk
  have HT := Lib.hid ht
  have hxw : IntKind.i64.wrap (x : Int) = (x : Int) := by rw [IntKind.wrap_i64]; omega
  have hnw : (n : Int) - 1 = ((n - 1 : Nat) : Int) := by omega
  have hnn : n - 1 ≤ n := by omega
  obtain ⟨N, hN⟩ : ∃ N, N = n - 1 := ⟨_, rfl⟩
  rw [← hN] at hnw hnn
  have HNN := Lib.hid hN
  clear hk ht hk1 hw1 hN
  by_cases h128 : x < 128
  · have d0 : decide ((128 : Int) ≤ (x : Int)) = false := decide_eq_false (by omega)
    have e1 : k = 1 := by rw [HK.out]; unfold slen; rw [← HX.out, if_pos h128]
    have hx3 : IntKind.i64.wrap ((x : Int) + 3) = (t : Int) := by rw [HT.out]; unfold stimes; rw [← HX.out, if_pos h128, IntKind.wrap_i64]; omega
    subst e1
    by_cases hcut : N < 1
    · have d1 : decide ((N : Int) < 1) = true := decide_eq_true (by omega)
      go_enter Try.func53, Try.ntmps53
      go_wp2
      go_quiet (fail)
      go_wp2
      have hr2 : Row ((((w.alloc (.cells #[.slice none 0 0, .int .i64 0] 70)).drewN nq).setCell ⟨w.heap.size, 0, none⟩ (.slice none 0 0)).setCell ⟨w.heap.size, 1, none⟩ (.int .i64 0)) w.heap.size 70 [.slice none 0 0, .int .i64 0] := ((HR1.out.drewN nq).set_ 0 _).set_ 1 _
      refine bodyPost_ret (results_row_tmp rfl _ _ _ _ _ _ _ _ rfl hr2 Try.underlying70 rfl (by kernel_rfl) rfl) rfl ⟨⟨hal, .inr ⟨?_, rfl⟩⟩, ((below_drewN HB.out nq).setCell (Nat.le_refl _) _).setCell (Nat.le_refl _) _⟩
      rw [← HK.out, HL.out, ← HNN.out]; omega
    · have d1 : decide ((N : Int) < 1) = false := decide_eq_false (by omega)
      have hn2 : (2 : Int) ≤ (n : Int) := by have := HNN.out; omega
      have hc1 : ¬ c = 1 := by omega
      have hc2 : (2 : Int) ≤ (c : Int) := by omega
      go_enter Try.func53, Try.ntmps53
      go_wp2
      go_quiet (fail)
      go_wp2
      have hr2 : Row ((((w.alloc (.cells #[.slice none 0 0, .int .i64 0] 70)).drewN nq).setCell ⟨w.heap.size, 0, none⟩ (.slice (some ⟨ad.block, ad.off + 1, none⟩) 1 (c - 1))).setCell ⟨w.heap.size, 1, none⟩ (.int .i64 (t : Int))) w.heap.size 70 [.slice (some ⟨ad.block, ad.off + 1, none⟩) 1 (c - 1), .int .i64 (t : Int)] := ((HR1.out.drewN nq).set_ 0 _).set_ 1 _
      refine bodyPost_ret (results_row_tmp rfl _ _ _ _ _ _ _ _ rfl hr2 Try.underlying70 rfl (by kernel_rfl) rfl) rfl ⟨⟨hal, .inl ⟨?_, ?_⟩⟩, ((below_drewN HB.out nq).setCell (Nat.le_refl _) _).setCell (Nat.le_refl _) _⟩
      · rw [← HK.out, HL.out, ← HNN.out]; omega
      · rw [← HK.out, ← HT.out]; simp [Addr.add]
  · have d0 : decide ((128 : Int) ≤ (x : Int)) = true := decide_eq_true (by omega)
    have hx3 : IntKind.i64.wrap ((x : Int) + 3) = ((x + 3 : Nat) : Int) := by rw [IntKind.wrap_i64]; omega
    have e1 : (256 : Int) - (x : Int) = (k : Int) := by rw [HK.out]; unfold slen; rw [← HX.out, if_neg h128]; omega
    have e2 : t = 1 := by rw [HT.out]; unfold stimes; rw [← HX.out, if_neg h128]
    subst e2
    by_cases hcut : N < k
    · have d1 : decide (N < k) = true := decide_eq_true hcut
      go_enter Try.func53, Try.ntmps53
      go_wp2
      go_quiet (fail)
      go_wp2
      have hr2 : Row ((((w.alloc (.cells #[.slice none 0 0, .int .i64 0] 70)).drewN nq).setCell ⟨w.heap.size, 0, none⟩ (.slice none 0 0)).setCell ⟨w.heap.size, 1, none⟩ (.int .i64 0)) w.heap.size 70 [.slice none 0 0, .int .i64 0] := ((HR1.out.drewN nq).set_ 0 _).set_ 1 _
      refine bodyPost_ret (results_row_tmp rfl _ _ _ _ _ _ _ _ rfl hr2 Try.underlying70 rfl (by kernel_rfl) rfl) rfl ⟨⟨hal, .inr ⟨?_, rfl⟩⟩, ((below_drewN HB.out nq).setCell (Nat.le_refl _) _).setCell (Nat.le_refl _) _⟩
      rw [← HK.out, HL.out, ← HNN.out]; omega
    · have d1 : decide (N < k) = false := decide_eq_false hcut
      obtain ⟨e, he⟩ : ∃ e, e = 1 + k := ⟨_, rfl⟩
      have hei : 1 + (k : Int) = (e : Int) := by omega
      have he1 : (1 : Int) ≤ (e : Int) := by omega
      have hen : (e : Int) ≤ (n : Int) := by have := HNN.out; omega
      have hec : (e : Int) ≤ (c : Int) := by have := HNN.out; omega
      have hek : (e : Int) - 1 = (k : Int) := by omega
      have hek2 : e - 1 = k := by omega
      have hc1 : ¬ c = 1 := by have := HNN.out; omega
      have hE := Lib.hid he
      clear he
      go_enter Try.func53, Try.ntmps53
      go_wp2
      go_quiet (fail)
      go_wp2
      have hr2 : Row ((((w.alloc (.cells #[.slice none 0 0, .int .i64 0] 70)).drewN nq).setCell ⟨w.heap.size, 0, none⟩ (.slice (some ⟨ad.block, ad.off + 1, none⟩) k (c - 1))).setCell ⟨w.heap.size, 1, none⟩ (.int .i64 1)) w.heap.size 70 [.slice (some ⟨ad.block, ad.off + 1, none⟩) k (c - 1), .int .i64 1] := ((HR1.out.drewN nq).set_ 0 _).set_ 1 _
      refine bodyPost_ret (results_row_tmp rfl _ _ _ _ _ _ _ _ rfl hr2 Try.underlying70 rfl (by kernel_rfl) rfl) rfl ⟨⟨hal, .inl ⟨?_, ?_⟩⟩, ((below_drewN HB.out nq).setCell (Nat.le_refl _) _).setCell (Nat.le_refl _) _⟩
      · rw [← HK.out, HL.out, ← HNN.out]; omega
      · rw [← HK.out, ← HT.out]; simp [Addr.add]
end Go.Proofs.Ytffglnccpbbclaa
