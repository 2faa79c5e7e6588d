
/- The contract of varint.Take. -/

import Derived.Test.YtocodcceimeiiaaRPut

import Derived.Deep.DeepMust

import Derived.Lib.MinMax

namespace Go.Proofs.Ytocodcceimeiiaa

open Go.RowKit

/-- What a call answers that takes a number off bytes. -/
def RetT (k : IntKind) (w : World) (o : Option (Int × List UInt8)) (e : Ending) (w' : World) : Prop :=
  match o with
  | none => e = .returned (.tuple #[.int k 0, .slice none 0 0, .int .i64 2]) ∧ Below w.heap.size w w'
  | some p => ∃ A c, e = .returned (.tuple #[.int k p.1, .slice A p.2.length c, .int .i64 0]) ∧ (A = none → p.2.length = 0) ∧ p.2.length ≤ c ∧ c ≤ maxLen ∧ OwnB w p.2 (.slice A p.2.length c) w' ∧ Below w.heap.size w w'

/-- What the loop holds: k bytes with their highest bit are read. -/
def TakeRel (l : List UInt8) (x i : Value) : Prop :=
  ∃ (k : Nat) (y : Int), i = .int .i64 (k : Int) ∧ k ≤ 10 ∧ k ≤ l.length ∧ x = .int .u64 y ∧ 0 ≤ y ∧ y < 18446744073709551616 ∧ (k ≤ 9 → y = (vsum (l.take k) : Nat)) ∧ ∀ j (h : j < l.length), j < k → 128 ≤ l[j].toNat

theorem or_shift_bd (y : Int) (d k : Nat) (h0 : 0 ≤ y) (h1 : y < 18446744073709551616) :
    0 ≤ bits .or .u64 y (IntKind.u64.wrap ((d : Int) * 2 ^ (7 * k))) ∧ bits .or .u64 y (IntKind.u64.wrap ((d : Int) * 2 ^ (7 * k))) < 18446744073709551616 := by
  rw [u64_or y _ h0 h1 (by rw [IntKind.wrap_u64]; omega) (by rw [IntKind.wrap_u64]; omega)]
  have : y.toNat ||| (IntKind.u64.wrap ((d : Int) * 2 ^ (7 * k))).toNat < 2 ^ 64 := Nat.or_lt_two_pow (by omega) (by rw [IntKind.wrap_u64]; omega)
  omega
theorem or_shift_eq (a d k : Nat) (ha : a < 128 ^ k) (hk : k ≤ 9) (hd : 128 ^ k * d < 18446744073709551616) :
    bits .or .u64 (a : Int) (IntKind.u64.wrap ((d : Int) * 2 ^ (7 * k))) = ((a + 128 ^ k * d : Nat) : Int) := by
  have h1 : (128 : Nat) ^ k = 2 ^ (7 * k) := by rw [Nat.pow_mul]
  have h2 : (128 : Nat) ^ k ≤ 128 ^ 9 := Nat.pow_le_pow_right (by omega) hk
  have h3 : (128 : Nat) ^ 9 = 9223372036854775808 := by decide
  rw [h1] at ha hd ⊢
  have h4 : ((d : Int) * 2 ^ (7 * k)) = ((d * 2 ^ (7 * k) : Nat) : Int) := by push_cast; rfl
  rw [h4, IntKind.wrap_u64, Int.emod_eq_of_lt (by omega) (by rw [Nat.mul_comm]; omega), u64_join (7 * k) a d ha (by rw [Nat.mul_comm]; exact hd) (by omega), Nat.mul_comm d]

theorem mayEnd_is (i c : Nat) (v : Bool) (w : World) (h1 : i ≤ 1000) (h2 : c < 256) (hv : vend i c = v) :
    Calls Try.prog 28 #[.int .i64 (i : Int), .int .u8 (c : Int)] w fun e w' => e = .returned (.bool v) ∧ w = w' := by
  have h := mayEnd_any (i : Int) (c : Int) w (by omega) (by omega) (by omega) (by omega)
  rw [Int.toNat_natCast, Int.toNat_natCast, hv] at h
  exact h

set_option maxHeartbeats 400000 in
set_option maxRecDepth 100000 in
theorem take_any (A : Option Addr) (n c : Nat) (l : List UInt8) (w : World) (hA : A = none → n = 0) (hn : l.length = n) (hnc : n ≤ c) (hnb : n ≤ 1000000) (hl : Lies w A (l.map bv)) :
    Calls Try.prog 26 #[.slice A n c] w (RetT .u64 w ((vtake l).map fun p => ((p.1 : Int), p.2))) := by
  go_enter Try.func26, Try.ntmps26
  go_wp2
  go_loop [5, 11] (TakeRel l) (fun _ i => 10 - (intOf i).toNat)
  case atStart => exact ⟨0, 0, rfl, by omega, by omega, rfl, by omega, by omega, by simp [vsum], by omega⟩
  case round =>
    obtain ⟨k, y, rfl, hk, hkl, rfl, hy0, hy1, hy, hhi⟩ := hrel
    have HY := Lib.hid hy
    have HH := Lib.hid hhi
    clear hy hhi
    by_cases hlt : k < min n 10
    · have hm : (l.map bv).length = n := by simpa using hn
      obtain ⟨ad, rfl, _, hc⟩ := hl.cell (k := k) (by omega)
      obtain ⟨b, hb⟩ : ∃ b : Nat, b = (l[k]'(by omega)).toNat := ⟨_, rfl⟩
      have hcb : w.cell? (ad.add k) = some (.int .u8 (b : Int)) := by rw [hc, List.getElem_map, hb]; rfl
      have hb256 : b < 256 := by rw [hb]; exact UInt8.toNat_lt _
      have HB := Lib.hid hb
      clear hb hc
      have ha1 := u8_and127 (b : Int) (by omega) (by omega)
      have hlt' : (k : Int) < min (n : Int) 10 := by omega
      have hbd := or_shift_bd y (b % 128) k hy0 hy1
      have hZ : bits .or .u64 y (IntKind.u64.wrap ((b : Int) % 128 * 2 ^ (7 * k))) = bits .or .u64 y (IntKind.u64.wrap (((b % 128 : Nat) : Int) * 2 ^ (7 * k))) := by push_cast; rfl
      obtain ⟨Z, hzz⟩ : ∃ Z, Z = bits .or .u64 y (IntKind.u64.wrap (((b % 128 : Nat) : Int) * 2 ^ (7 * k))) := ⟨_, rfl⟩
      rw [← hzz] at hZ hbd
      have HZ := Lib.hid hzz
      clear hzz
      obtain ⟨hz0, hz1⟩ := hbd
      have hb9 : k ≤ 9 := by omega
      by_cases h128 : b < 128
      · have ha2 : bits .and .u8 (b : Int) 128 = 0 := by rw [u8_and128 (b : Int) (by omega) (by omega)]; omega
        have hend : vtake l = if vend k b = true then some (vsum (l.take k) + 128 ^ k * b, l.drop (k + 1)) else none := by
          have := vtake_end hb9 (by omega) HH.out (by rw [← HB.out]; exact h128)
          rw [← HB.out] at this
          exact this
        cases hv : vend k b with
        | false =>
          have HE : Hid (vtake l = none) := by show vtake l = none; rw [hend, hv]; simp
          have HV := Lib.hid hv
          clear hend hv
          go_wp2_with (go_at_call 28; refine (mayEnd_is _ _ false _ (by omega) (by omega) HV.out).mono ?_; rintro e w' ⟨rfl, rfl⟩)
          go_ret3
          rw [HE.out]
          exact ⟨rfl, Below.refl _ _⟩
        | true =>
          have HE : Hid (vtake l = some (vsum (l.take k) + 128 ^ k * b, l.drop (k + 1))) := by show vtake l = _; rw [hend, hv]; simp
          have HV := Lib.hid hv
          clear hend hv
          have hdl : ((l.drop (k + 1)).map bv).length = n - (k + 1) := by rw [List.length_map, List.length_drop, hn]
          have hlk : Lies w (some ⟨ad.block, ad.off + (k + 1), none⟩) ((l.drop (k + 1)).map bv) := by rw [List.map_drop]; exact hl.drop_some k
          have hfin : ∀ (v : Value) (w1 : World), w1.ownsRow w.heap.size 5 1 v (n - (k + 1)) ((l.drop (k + 1)).map bv) → Below w.heap.size w w1 →
              RetT .u64 w ((vtake l).map fun p => ((p.1 : Int), p.2)) (.returned (.tuple #[.int .u64 Z, v, .int .i64 0])) w1 := by
            intro v w1 hown hb
            obtain ⟨B, c', hB, h2, h3, h4, _, h6⟩ := ret_own (w0 := w) hown hb
            injection hB with hB
            subst hB
            have hZv : Z = ((vsum (l.take k) + 128 ^ k * b : Nat) : Int) := by
              have h7 := HY.out hb9
              have h8 : b % 128 = b := by omega
              have hvs := vsum_lt (l.take k)
              rw [List.length_take, Nat.min_eq_left (by omega)] at hvs
              have hto := (vtake_some HE.out).2
              rw [HZ.out, h7, h8, or_shift_eq _ _ _ hvs hb9 (by omega)]
            rw [HE.out]
            exact ⟨B, c', by rw [hZv], h2, h3, h4, ⟨_, hown⟩, h6⟩
          have HF := Lib.hid hfin
          clear hfin
          by_cases hck : c = k + 1
          · obtain rfl : n = k + 1 := by omega
            have hd0 : (l.drop (k + 1)).map bv = [] := List.eq_nil_of_length_eq_zero (by omega)
            have HD := Lib.hid hd0
            clear hd0 hdl
            go_wp2_with (first | (go_at_call 28; refine (mayEnd_is _ _ true _ (by omega) (by omega) HV.out).mono ?_; rintro e w' ⟨rfl, rfl⟩) | (at_builtin; refine wpList_join elemB rfl _ _ rfl w.heap.size _ _ _ _ _ _ [] w rfl rfl (by simp) (by simp) Lies.nil (by simp) (World.ownsRow_nil _ _ _ _) (Below.refl _ _) (Nat.le_refl _) (by omega) (by omega) ?_))
            intro v1 w1 hown1 hb1 _ _
            go_wp2
            go_ret3
            exact HF.out v1 w1 (by rw [HD.out]; simpa using hown1) hb1
          · go_wp2_with (first | (go_at_call 28; refine (mayEnd_is _ _ true _ (by omega) (by omega) HV.out).mono ?_; rintro e w' ⟨rfl, rfl⟩) | (at_builtin; refine wpList_join elemB rfl _ _ rfl w.heap.size _ _ _ _ _ _ ((l.drop (k + 1)).map bv) w rfl rfl (by simp) hdl hlk (bv_one _) (World.ownsRow_nil _ _ _ _) (Below.refl _ _) (Nat.le_refl _) (by omega) (by omega) ?_))
            intro v1 w1 hown1 hb1 _ _
            go_wp2
            go_ret3
            exact HF.out v1 w1 (by simpa using hown1) hb1
      · have ha2 : bits .and .u8 (b : Int) 128 = 128 := by rw [u8_and128 (b : Int) (by omega) (by omega)]; omega
        go_wp2
        go_round
        case rel =>
          refine ⟨k + 1, Z, by go_num, by omega, by omega, rfl, hz0, hz1, ?_, ?_⟩
          · intro h9
            have h7 := HY.out hb9
            have hvs := vsum_lt (l.take k)
            rw [List.length_take, Nat.min_eq_left (by omega)] at hvs
            have h2 : (128 : Nat) ^ k ≤ 128 ^ 8 := Nat.pow_le_pow_right (by omega) (by omega)
            have h3 : (128 : Nat) ^ 8 = 72057594037927936 := by decide
            have h4 : 128 ^ k * (b % 128) ≤ 72057594037927936 * 127 := Nat.mul_le_mul (by omega) (by omega)
            rw [HZ.out, h7, or_shift_eq _ _ _ hvs hb9 (by omega), List.take_succ_eq_append_getElem (by omega), vsum_append, List.length_take, Nat.min_eq_left (by omega)]
            simp only [vsum, ← HB.out, Nat.mul_zero, Nat.add_zero]
          · intro j hj hjk
            by_cases hjk' : j = k
            · subst hjk'; rw [← HB.out]; omega
            · exact HH.out j hj (by omega)
        case measure => simp [intOf]; omega
    · have hge : ¬ (k : Int) < min (n : Int) 10 := by omega
      have hnone : vtake l = none := by
        by_cases h10 : n < 10
        · exact vtake_all (by omega) fun j hj => HH.out j hj (by omega)
        · exact vtake_long (by omega) fun j hj hj10 => HH.out j hj (by omega)
      have HE := Lib.hid hnone
      clear hnone
      go_wp2
      go_ret3
      rw [HE.out]
      exact ⟨rfl, Below.refl _ _⟩
end Go.Proofs.Ytocodcceimeiiaa
