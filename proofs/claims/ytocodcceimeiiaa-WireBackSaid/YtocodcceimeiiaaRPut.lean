
/- The contract of the reference's Put. -/

import Derived.Test.YtocodcceimeiiaaLeaf

namespace Go.Proofs.Ytocodcceimeiiaa

open Go.RowKit

/-- What the loop holds: the bytes m are laid down, y is still to come. -/
def RPutRel (l : List UInt8) (X : Nat) (w : World) (t : TypeId) (x v : Value) (wr : World) : Prop :=
  ∃ (y : Nat) (m : List UInt8), x = .int .u64 (y : Int) ∧ (y : Int) < 18446744073709551616 ∧ m ++ vput y = l ++ vput X ∧ wr.ownsRow w.heap.size t 1 v m.length (m.map bv) ∧ Below w.heap.size w wr

theorem bv_low {y : Nat} (h : y < 256) : Value.int .u8 (y : Int) = bv (UInt8.ofNat y) := by unfold bv; congr 1; simp; omega

set_option maxHeartbeats 400000 in
set_option maxRecDepth 100000 in
theorem rput_own (A : Option Addr) (n c : Nat) (x : Int) (l : List UInt8) (w : World) (hA : A = none → n = 0) (hn : l.length = n) (hnb : n ≤ 1000000) (hl : Lies w A (l.map bv)) (h0 : 0 ≤ x) (h1 : x < 18446744073709551616) :
    Calls Try.prog 15 #[.slice A n c, .int .u64 x] w (RetOwn w (l ++ vput x.toNat)) := by
  obtain ⟨X, rfl⟩ := Int.eq_ofNat_of_zero_le h0
  rw [Int.toNat_natCast]
  have hb0 : Below w.heap.size w (w.alloc (.cells #[] 5)) := (Below.refl _ _).alloc (Nat.le_refl _) _
  have hl1 : Lies (w.alloc (.cells #[] 5)) A (l.map bv) := hl.below hb0
  have hm : (l.map bv).length = n := by simpa using hn
  have hown0 : (w.alloc (.cells #[] 5)).ownsRow w.heap.size 5 1 (.slice (some ⟨w.heap.size, 0, none⟩) 0 0) 0 [] := World.ownsRow_made w #[] 0 (Nat.le_refl _) (by unfold maxLen; omega) (by simp)
  have h10 := vput_len_10 (x := X) (by omega)
  have hzz : w.heap.size ≤ (w.alloc (.cells #[] 5)).heap.size := by simp
  go_enter Try.func15, Try.ntmps15
  go_wp2_with (at_builtin; refine wpList_join elemB rfl _ _ rfl w.heap.size _ _ _ _ _ _ _ w rfl rfl hA hm hl1 (bv_one l) hown0 hb0 hzz (by omega) (by omega) ?_)
  intro v1 w1 hown1 hb1 _ _
  rw [← hn] at hown1
  clear hown0 hl1 hb0 hzz
  go_wp2
  go_loopw [1, 5] (RPutRel l X w 5) (fun x _ _ => (intOf x).toNat)
  case atStart => exact ⟨X, l, rfl, by omega, rfl, by simpa using hown1, hb1⟩
  case round =>
    obtain ⟨y, m, rfl, hy, HM, hown, hb⟩ := hrel
    have HE := Lib.hid HM
    have hlen : m.length ≤ 1000010 := by
      have := congrArg List.length HM
      have := vput_len_pos y
      simp only [List.length_append] at *
      omega
    have hz := hb.size
    clear HM hown1 hb1
    by_cases hlt : y < 128
    · have hq : ¬ (128 : Int) ≤ (y : Int) := by omega
      go_wp2_with (at_builtin; refine wpList_push elemB rfl _ _ rfl w.heap.size _ _ _ (.int .u8 (y : Int)) wr w rfl rfl rfl rfl hown hb hz (by omega) (by omega) ?_)
      intro v2 w2 hown2 hb2 _ _
      go_wp2
      go_ret
      rw [bv_low (by omega)] at hown2
      rw [← HE.out, vput_lt hlt]
      exact ⟨_, rfl, by simpa using hown2, hb2⟩
    · have hq : (128 : Int) ≤ (y : Int) := by omega
      go_wp2_with (at_builtin; refine wpList_push elemB rfl _ _ rfl w.heap.size _ _ _ (.int .u8 ((y : Int) % 128 + 128)) wr w rfl rfl rfl rfl hown hb hz (by omega) (by omega) ?_)
      intro v2 w2 hown2 hb2 _ _
      go_wp2
      go_roundw
      case rel =>
        refine ⟨y / 128, m ++ [UInt8.ofNat (y % 128 + 128)], by go_num, by omega, ?_, ?_, hb2⟩
        · rw [← HE.out, vput_ge (x := y) (by omega)]; simp
        · rw [show (y : Int) % 128 + 128 = ((y % 128 + 128 : Nat) : Int) by omega, bv_low (by omega)] at hown2
          simpa using hown2
      case measure => simp [intOf]; omega
theorem rput_any (A : Option Addr) (n c : Nat) (x : Int) (l : List UInt8) (w : World) (hA : A = none → n = 0) (hn : l.length = n) (hnb : n ≤ 1000000) (hl : Lies w A (l.map bv)) (h0 : 0 ≤ x) (h1 : x < 18446744073709551616) :
    Calls Try.prog 15 #[.slice A n c, .int .u64 x] w (RetB w (l ++ vput x.toNat)) := (rput_own A n c x l w hA hn hnb hl h0 h1).mono fun _ _ h => h.retB
end Go.Proofs.Ytocodcceimeiiaa
