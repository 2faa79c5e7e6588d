
/- The program's contracts of layer 12: name (of a column), named. -/

import Derived.Test.YtljepanilfbjgaaDoorKName

import Derived.Test.YtljepanilfbjgaaDoorWide

import Derived.Lib.OthersKept

import Derived.Lib.TrimUEq

namespace Go.Proofs.YtljepanilfbjgaaDoor

open Go.RowKit

theorem kchar_eq (r : Int) : kchar r = ((decide (97 ≤ r) && decide (r ≤ 122)) || (decide (48 ≤ r) && decide (r ≤ 57)) || (r == 95)) := by
  rw [Bool.eq_iff_iff, kchar_yes]
  simp only [Bool.or_eq_true, Bool.and_eq_true, decide_eq_true_eq, beq_iff_eq]
  omega
theorem nameable_any (r : Int) (w : World) : Calls Tryd.prog 25 #[.int .i32 r] w fun e w' => e = .returned (.bool (kchar r)) ∧ w = w' := by
  have HK := Lib.hid (kchar_eq r)
  cases c1 : decide (97 ≤ r) <;> cases c2 : decide (r ≤ 122) <;> cases c3 : decide (48 ≤ r) <;> cases c4 : decide (r ≤ 57) <;> cases c5 : (r == 95)
  all_goals
    rw [c1, c2, c3, c4, c5] at HK
    go_enter Tryd.func25, Tryd.ntmps25
    go_wp2
    go_ret
    exact ⟨by rw [HK.out]; rfl, rfl⟩
/-- What a range over a name knows of its place: all ahead of it may stand in a name. -/
def NameRelO (s : ByteArray) (w wr : World) : Prop := ∃ pos : Nat, wr.heap[w.heap.size]? = some (.stringIter s pos) ∧ kchars s pos ∧ Below w.heap.size w wr
set_option maxHeartbeats 2000000 in
set_option maxRecDepth 100000 in
theorem kname_any (s : ByteArray) (w : World) (hs : s.size ≤ maxLen) : Calls Tryd.prog 18 #[.string s] w fun e w' => e = .returned (.bool (kname s)) ∧ Below w.heap.size w w' := by
  have hsi : (s.size : Int) ≤ 9223372036854775807 := by unfold maxLen at hs; omega
  cases e1 : (s.toList == [])
  · by_cases h20 : s.size ≤ 20
    · have d1 : decide ((20 : Int) < (s.size : Int)) = false := decide_eq_false (by omega)
      have HE1 := Lib.hid e1
      go_enter Tryd.func18, Tryd.ntmps18
      go_wp2
      clear e1
      go_loopw [] (NameRelO s w) (fun wr => s.size - wr.iterPos w.heap.size)
      case atStart => exact ⟨0, World.iter_heap w s 0, fun j _ h => absurd h (Nat.not_lt_zero _), (Below.refl _ w).alloc (Nat.le_refl _) _⟩
      case round =>
        obtain ⟨pos, hit, hch, hbw⟩ := hrel
        have HCH := Lib.hid hch
        by_cases hp : pos < s.size
        · have hbw2 := Lib.below_iterAt hbw (k := w.heap.size) (Nat.le_refl _) s (pos + (Utf8.decode s pos).2)
          by_cases ha : (s[pos]'hp).toNat < 128
          · have hnx : ∀ ty, (Instr.next (.pointer (some ⟨w.heap.size, 0, none⟩)) true ty).run Tryd.prog wr = _ := fun ty => Lib.run_next_ascii_at wr w.heap.size s pos ty hit hp ha
            have hit2 := Lib.iterAt_heap wr w.heap.size s pos (pos + 1) hit
            rw [decode_ascii s pos hp ha] at hbw2
            have HB2 := Lib.hid hbw2
            have HI2 := Lib.hid hit2
            have HIT := Lib.hid hit
            have HC := Lib.hid (fun W => nameable_any ((s[pos]'hp).toNat : Int) W)
            clear hbw2 hit2 hch hbw hit
            cases hk : kchar ((s[pos]'hp).toNat : Int)
            · rw [hk] at HC
              have HNO := Lib.hid (kname_no hp (by rw [hk]; exact Bool.noConfusion))
              clear hk
              go_wp2_with (go_at_call 25; refine (HC.out _).mono ?_; rintro e w' ⟨rfl, rfl⟩)
              go_ret
              exact ⟨by rw [← HNO.out]; rfl, HB2.out⟩
            · rw [hk] at HC
              have HNX := Lib.hid (kchars_next HCH.out hp hk)
              clear hk
              go_wp2_with (go_at_call 25; refine (HC.out _).mono ?_; rintro e w' ⟨rfl, rfl⟩)
              go_roundw
              case rel => exact ⟨pos + 1, HI2.out, HNX.out, HB2.out⟩
              case measure =>
                simp only [World.iterPos, HI2.out, HIT.out]
                omega
          · have hnx : ∀ ty, (Instr.next (.pointer (some ⟨w.heap.size, 0, none⟩)) true ty).run Tryd.prog wr = _ := fun ty => Lib.run_next_any_at wr w.heap.size s pos ty hit hp
            have hr := (decode_high s pos hp (by omega)).1
            have hk1 : kchar ((s[pos]'hp).toNat : Int) = false := by
              rw [← Bool.not_eq_true, kchar_yes]
              omega
            have hk2 : kchar ((Utf8.decode s pos).1 : Int) = false := by
              rw [← Bool.not_eq_true, kchar_yes]
              omega
            have HNO := Lib.hid (kname_no hp (by rw [hk1]; exact Bool.noConfusion))
            have HC := Lib.hid (fun W => nameable_any ((Utf8.decode s pos).1 : Int) W)
            rw [hk2] at HC
            have HB2 := Lib.hid hbw2
            clear hk1 hk2 hr hbw2 hch hbw hit ha
            go_wp2_with (go_at_call 25; refine (HC.out _).mono ?_; rintro e w' ⟨rfl, rfl⟩)
            go_ret
            exact ⟨by rw [← HNO.out]; rfl, HB2.out⟩
        · have hnx : ∀ ty, (Instr.next (.pointer (some ⟨w.heap.size, 0, none⟩)) true ty).run Tryd.prog wr = _ := fun ty => Lib.run_next_end_at wr w.heap.size s pos ty hit hp
          have hk : kname s = true := by
            unfold kname
            rw [decide_eq_true (show kchars s s.size from fun j hj _ => HCH.out j hj (by omega)), HE1.out, decide_eq_true (by omega)]
            rfl
          have HK := Lib.hid hk
          have HB := Lib.hid hbw
          clear hk hbw hch
          go_wp2
          go_ret
          exact ⟨by rw [HK.out]; rfl, HB.out⟩
    · have d1 : decide ((20 : Int) < (s.size : Int)) = true := decide_eq_true (by omega)
      have hk : kname s = false := by
        unfold kname
        rw [decide_eq_false (show ¬ (s.size : Int) ≤ 20 by omega), Bool.and_false, Bool.and_false]
      have HK := Lib.hid hk
      clear hk
      go_enter Tryd.func18, Tryd.ntmps18
      go_wp2
      go_ret
      exact ⟨by rw [HK.out]; rfl, Below.refl _ _⟩
  · have hk : kname s = false := by
      unfold kname
      rw [e1]
      simp
    have HK := Lib.hid hk
    clear hk
    go_enter Tryd.func18, Tryd.ntmps18
    go_wp2
    go_ret
    exact ⟨by rw [HK.out]; rfl, Below.refl _ _⟩
end Go.Proofs.YtljepanilfbjgaaDoor
