
/- The contract of varint.Put. -/

import Derived.Test.YtocodcceimeiiaaRPut

import Derived.Deep.DeepMust

namespace Go.Proofs.Ytocodcceimeiiaa

open Go.RowKit

/-- What the loop holds: j bytes are laid down behind l. -/
def PutRel (l : List UInt8) (X k : Nat) (w : World) (t : TypeId) (x i : Value) (wr : World) : Prop :=
  ∃ j : Nat, i = .int .i64 (j : Int) ∧ j + 1 ≤ k ∧ x = .int .u64 ((X / 128 ^ j : Nat) : Int) ∧ Row wr w.heap.size t ((l ++ (vput X).take j).map bv ++ List.replicate (k - j) (bv 0)) ∧ Below w.heap.size w wr

set_option maxHeartbeats 400000 in
set_option maxRecDepth 100000 in
theorem put_own (A : Option Addr) (n c : Nat) (x : Int) (l : List UInt8) (w : World) (_hA : A = none → n = 0) (hn : l.length = n) (hnb : n ≤ 1000000) (hl : Lies w A (l.map bv)) (h0 : 0 ≤ x) (h1 : x < 18446744073709551616) :
    Calls Try.prog 23 #[.slice A n c, .int .u64 x] w (RetOwn w (l ++ vput x.toNat)) := by
  have h10 := vput_len_10 (x := x.toNat) (by omega)
  have hp := vput_len_pos x.toNat
  obtain ⟨k, hk⟩ : ∃ k, k = (vput x.toNat).length := ⟨_, rfl⟩
  have HK := Lib.hid hk
  have hsz := vsize_any x w h0 h1
  rw [← hk] at hsz h10 hp
  have HS := Lib.hid hsz
  clear hk hsz
  have hm : (l.map bv).length = n := by simpa using hn
  go_enter Try.func23, Try.ntmps23
  go_wp2_with (first | (go_at_call 25; refine HS.out.mono ?_; rintro e w' ⟨rfl, rfl⟩) | (refine wpList_make elemB rfl _ _ rfl _ _ _ _ (n + k) w w.heap.size rfl rfl ?_ ?_ (by omega) (by omega) (Below.refl _ _) (Nat.le_refl _) ?_))
  · omega
  · omega
  intro w1 hr1 hb1
  have hl1 := hl.below hb1
  have hlr : (List.replicate (n + k) (bv 0)).length = n + k := by simp
  go_wp2_with (refine wpList_copyRow elemB rfl (.tmp 16) (.tmp 17) rfl _ _ _ _ _ _ _ _ (l.map bv) w.heap.size w rfl rfl hr1 hm hl1 (bv_one l) (by omega) (by omega) hb1 (Nat.le_refl _) ?_)
  intro w2 hr2 hb2
  have hr2' : Row w2 w.heap.size 5 (l.map bv ++ List.replicate k (bv 0)) := by simpa [hn] using hr2
  clear hr2 hr1 hb1 hl1 hlr HS
  go_wp2
  obtain ⟨X, rfl⟩ := Int.eq_ofNat_of_zero_le h0
  rw [Int.toNat_natCast] at *
  go_loopw [1, 25] (PutRel l X k w 5) (fun _ i _ => k - (intOf i).toNat)
  case atStart => exact ⟨0, rfl, by omega, by simp, by simpa using hr2', hb2⟩
  case round =>
    obtain ⟨j, rfl, hj, rfl, hr, hb⟩ := hrel
    clear hr2' hb2
    have hll : ((l ++ (vput X).take j).map bv).length = n + j := by
      have := HK.out
      simp; omega
    have hc0 : wr.cell? ⟨w.heap.size, n + j, none⟩ = some (bv 0) := by
      rw [hr.cell, List.getElem?_append_right (by omega), hll, List.getElem?_replicate]
      simp; omega
    have hf0 := hr.free (n + j)
    generalize hY : X / 128 ^ j = Y at *
    have HY := Lib.hid hY
    clear hY
    have hy : (Y : Int) < 18446744073709551616 := by
      have := Nat.div_le_self X (128 ^ j)
      rw [HY.out] at this
      omega
    have ho := u8_or128 ((Y : Int) % 256) (by omega) (by omega)
    by_cases hlt : j + 1 < k
    · have hq : ((j : Int) < (k : Int) - 1) := by omega
      go_wp2
      go_roundw
      case rel =>
        refine ⟨j + 1, by go_num, by omega, ?_, ?_, hb.setCell (Nat.le_refl _) _⟩
        · rw [Nat.pow_succ, ← Nat.div_div_eq_div_mul, HY.out]; go_num
        · have h2 := hr.set_ (n + j) (.int .u8 ((Y : Int) % 128 + 128))
          have h3 : Value.int .u8 ((Y : Int) % 128 + 128) = bv (UInt8.ofNat (Y % 128 + 128)) := by
            rw [show (Y : Int) % 128 + 128 = ((Y % 128 + 128 : Nat) : Int) by omega, bv_low (by omega)]
          have h4 := (vput_getElem j X (by have := HK.out; omega)).1
          rw [h3] at h2 ⊢
          have h5 : (List.map bv (l ++ List.take j (vput X)) ++ List.replicate (k - j) (bv 0)).set (n + j) (bv (UInt8.ofNat (Y % 128 + 128))) =
              List.map bv (l ++ List.take (j + 1) (vput X)) ++ List.replicate (k - (j + 1)) (bv 0) := by
            rw [List.set_append_right _ _ (by omega), hll, Nat.sub_self, show k - j = k - (j + 1) + 1 by omega, List.replicate_succ, List.set_cons_zero,
              List.take_succ_eq_append_getElem (by have := HK.out; omega), h4, HY.out]
            simp
          rw [h5] at h2
          exact h2
      case measure => simp [intOf]; omega
    · obtain rfl : k = j + 1 := by omega
      have hq : ¬ ((j : Int) < ((j + 1 : Nat) : Int) - 1) := by omega
      go_wp2
      go_ret
      have h4 := vput_take_last j X HK.out
      have h5 := (vput_last j X HK.out).2
      rw [HY.out] at h4 h5
      have h2 := hr.set_ (n + j) (.int .u8 ((Y : Int) % 256))
      have h6 : (List.map bv (l ++ List.take j (vput X)) ++ List.replicate (j + 1 - j) (bv 0)).set (n + j) (.int .u8 ((Y : Int) % 256)) = List.map bv (l ++ vput X) := by
        have h7 : Value.int .u8 ((Y : Int) % 256) = bv (UInt8.ofNat Y) := by
          rw [show (Y : Int) % 256 = ((Y : Nat) : Int) by omega, bv_low (by omega)]
        rw [List.set_append_right _ _ (by omega), hll, Nat.sub_self, show j + 1 - j = 0 + 1 by omega, List.replicate_succ, List.set_cons_zero, h7, List.replicate_zero]
        conv => rhs; rw [← h4]
        simp
      rw [h6] at h2
      have h9 : (l ++ vput X).length = n + (j + 1) := by have := HK.out; rw [List.length_append]; omega
      exact ⟨.slice (some ⟨w.heap.size, 0, none⟩) (n + (j + 1)) (n + (j + 1)), rfl, by rw [h9]; exact own_of_row h2 (by rw [List.length_map]; exact h9) (Nat.le_refl _) (by omega), hb.setCell (Nat.le_refl _) _⟩
theorem put_any (A : Option Addr) (n c : Nat) (x : Int) (l : List UInt8) (w : World) (hA : A = none → n = 0) (hn : l.length = n) (hnb : n ≤ 1000000) (hl : Lies w A (l.map bv)) (h0 : 0 ≤ x) (h1 : x < 18446744073709551616) :
    Calls Try.prog 23 #[.slice A n c, .int .u64 x] w (RetB w (l ++ vput x.toNat)) := (put_own A n c x l w hA hn hnb hl h0 h1).mono fun _ _ h => h.retB
end Go.Proofs.Ytocodcceimeiiaa
