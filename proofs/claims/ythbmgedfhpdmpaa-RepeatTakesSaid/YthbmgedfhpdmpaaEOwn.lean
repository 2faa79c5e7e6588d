
/- repeat's own contracts, but Take's. -/

import Derived.Test.YthbmgedfhpdmpaaERTake

import Derived.Test.YthbmgedfhpdmpaaSl

import Derived.Test.YthbmgedfhpdmpaaBGen

namespace Go.Proofs.Ythbmgedfhpdmpaa

open Go.RowKit

theorem ebytes_or1 {u : Nat} (h : u < 2 ^ 64) : (wbits (u ||| 1) + 7) / 8 = ebytes u := by
  rw [wbits_or h (by decide), show wbits 1 = 1 from rfl]
  unfold ebytes
  omega
theorem esize_any (u : Nat) (w : World) (h : u < 2 ^ 64) :
    Calls Try.prog 19 #[.int .u64 (u : Int)] w fun e w' => e = .returned (.int .i64 (ebytes u : Int)) ∧ w = w' := by
  have hor := u64_or1 (u : Int) (by omega) (by omega)
  rw [Int.toNat_natCast] at hor
  obtain ⟨y, hy⟩ : ∃ y, y = u ||| 1 := ⟨_, rfl⟩
  have hy64 : y < 2 ^ 64 := by rw [hy]; exact Nat.or_lt_two_pow h (by decide)
  obtain ⟨b, hb⟩ : ∃ b, b = wbits y := ⟨_, rfl⟩
  have hb64 : b ≤ 64 := by rw [hb]; exact wbits_64 hy64
  have HE : Hid ((b + 7) / 8 = ebytes u) := Lib.hid (by rw [hb, hy]; exact ebytes_or1 h)
  have HB := Lib.hid (fun W => bits_any y W hy64)
  rw [← hb] at HB
  rw [← hy] at hor
  clear hy hb h hy64
  go_enter Try.func19, Try.ntmps19
  go_wp2_with (go_at_call 23; refine (HB.out _).mono ?_; rintro e w' ⟨rfl, rfl⟩)
  go_ret
  exact ⟨ret_int (by have := HE.out; omega), rfl⟩

/-- A number's bytes from the last to the first, in a loop. -/
def EDigRel (u n : Nat) (w : World) (i : Value) (wr : World) : Prop :=
  ∃ (k : Nat) (o : List UInt8), k ≤ n ∧ i = .int .i64 (k : Int) ∧ o.length = n ∧ o.drop (n - k) = be k u ∧ Row wr w.heap.size 5 (o.map bv) ∧ Below w.heap.size w wr
theorem edig_step {o : List UInt8} {n k j u z : Nat} (ho : o.length = n) (hj : n = j + k + 1) (hz : z = u / 256 ^ k % 256) (hd : o.drop (n - k) = be k u) : (o.set j (UInt8.ofNat z)).drop (n - (k + 1)) = be (k + 1) u := by
  rw [show n - (k + 1) = j by omega, List.drop_eq_getElem_cons (by rw [List.length_set]; omega), List.getElem_set_self, List.drop_set_of_lt (by omega), be, ← hz, ← hd, show n - k = j + 1 by omega]
set_option maxHeartbeats 1000000 in
theorem edigits_any (u : Nat) (w : World) (h : u < 2 ^ 64) :
    Calls Try.prog 13 #[.int .u64 (u : Int)] w fun e w' => ∃ v, e = .returned v ∧ IsB (be (ebytes u) u) v w' ∧ Below w.heap.size w w' := by
  obtain ⟨n, hn⟩ : ∃ n, n = ebytes u := ⟨_, rfl⟩
  have hn8 : n ≤ 8 := by rw [hn]; exact ebytes_8 h
  have HS := Lib.hid (fun W => esize_any u W h)
  rw [← hn] at HS ⊢
  have HU := Lib.hid h
  clear hn h
  go_enter Try.func13, Try.ntmps13
  go_wp2_with (first | (go_at_call 19; refine (HS.out _).mono ?_; rintro e w' ⟨rfl, rfl⟩) | (refine wpList_make elemB rfl _ _ rfl _ _ _ _ n w w.heap.size rfl rfl rfl rfl (by omega) (by omega) (Below.refl _ _) (Nat.le_refl _) ?_))
  intro w1 hr1 hb1
  have hst : EDigRel u n w (.int .i64 0) w1 := ⟨0, List.replicate n 0, by omega, rfl, by simp, by simp [be], by simpa using hr1, hb1⟩
  clear hr1 hb1
  go_wp2
  go_loopw [10] (EDigRel u n w) (fun i _ => n - (intOf i).toNat)
  case atStart => exact hst
  case round =>
    obtain ⟨k, o, hk, rfl, ho, hok, hr, hbr⟩ := hrel
    have HO := Lib.hid ho
    have HOK := Lib.hid hok
    clear ho hok hst
    by_cases hlt : k < n
    · have hlt2 : (k : Int) < (n : Int) := by omega
      obtain ⟨j, hj⟩ : ∃ j, n = j + k + 1 := ⟨n - 1 - k, by omega⟩
      have hji : (n : Int) - 1 - (k : Int) = (j : Int) := by omega
      have hjn : (j : Int) < (n : Int) := by omega
      have hjo : j < o.length := by have := HO.out; omega
      obtain ⟨d, hd⟩ : ∃ d, d = 8 * k := ⟨_, rfl⟩
      have hdi : 8 * (k : Int) = (d : Int) := by omega
      have hd64 : d ≤ 64 := by omega
      obtain ⟨y, hy⟩ : ∃ y, y = u / 256 ^ k := ⟨_, rfl⟩
      have hyi : (u : Int) / 2 ^ d = (y : Int) := by
        rw [hy, p256, ← hd]; simp
      obtain ⟨z, hz⟩ : ∃ z, z = y % 256 := ⟨_, rfl⟩
      have hz256 : z < 256 := by omega
      have hzw : IntKind.u8.wrap (y : Int) = (z : Int) := by rw [IntKind.wrap_u8]; omega
      have hzu : z = u / 256 ^ k % 256 := by rw [hz, hy]
      have HN := Lib.hid (edig_step HO.out hj hzu HOK.out)
      have hgr := hr.lt
      have hcx : wr.cell? ⟨w.heap.size, j, none⟩ = some (bv o[j]) := by rw [hr.cell, List.getElem?_map, List.getElem?_eq_getElem hjo]; rfl
      have hfx := hr.free j
      have hr2 := hr.set_ j (bv (UInt8.ofNat z))
      rw [← List.map_set, ← bv_low7 hz256] at hr2
      have HR2 := Lib.hid hr2
      have HBW := Lib.hid hbr
      clear hr2 hr hbr hj hd hy hz hzu
      go_wp2
      go_roundw
      case rel =>
        exact ⟨k + 1, o.set j (UInt8.ofNat z), by omega, by go_num, by rw [List.length_set]; exact HO.out, HN.out, HR2.out, HBW.out.setCell (Nat.le_refl _) _⟩
      case measure => simp [intOf]; omega
    · obtain rfl : k = n := by omega
      have hlt2 : ¬ (k : Int) < (k : Int) := by omega
      have hT : o = be k u := by
        have h1 := HOK.out
        rw [Nat.sub_self, List.drop_zero] at h1
        exact h1
      have HT := Lib.hid hT
      have HR := Lib.hid hr
      have HBR := Lib.hid hbr
      clear hT hr hbr
      go_wp2
      go_ret
      refine ⟨_, rfl, ?_, HBR.out⟩
      rw [← HT.out]
      exact isV_row HR.out HO.out (by omega)

/-- A repeat out of a number's bytes. -/
theorem elaid_any (T : Nat) (l : List UInt8) (v : Value) (w : World) (hv : IsB l v w) (h3 : 3 ≤ T) (h10 : T ≤ 10) (h1 : 1 ≤ l.length) (h8 : l.length ≤ 8) :
    Calls Try.prog 12 #[.int .i64 (T : Int), v] w (RetOwn w (UInt8.ofNat (8 * (l.length - 1) + (T - 3)) :: l)) := by
  obtain ⟨A, c, rfl, hA, hnc, hcm, hl⟩ := hv
  obtain ⟨n, hn⟩ : ∃ n, n = l.length := ⟨_, rfl⟩
  rw [← hn] at hA hnc h1 h8 ⊢
  obtain ⟨c0, hc0⟩ : ∃ c0, c0 = 8 * (n - 1) + (T - 3) := ⟨_, rfl⟩
  have hc64 : c0 < 64 := by omega
  rw [← hc0]
  have hci : 8 * ((n : Int) - 1) + (T : Int) - 3 = (c0 : Int) := by omega
  have hci2 : 8 * ((n : Int) - 1) + (T : Int) = (c0 : Int) + 3 := by omega
  have hc256 : c0 < 256 := by omega
  have hown := own_one w 5 (.int .u8 (c0 : Int)) (Nat.le_refl _)
  rw [bv_low7 hc256] at hown
  have hb1 : Below w.heap.size w (w.alloc (.cells #[bv (UInt8.ofNat c0)] 5)) := (Below.refl _ _).alloc (Nat.le_refl _) _
  have hz1 := hb1.size
  have hl1 := hl.below hb1
  have HN := Lib.hid hn
  clear hn hc0 hl hcm
  go_enter Try.func12, Try.ntmps12
  go_wp2_with (at_builtin; rw [bv_low7 hc256]; refine wpList_join elemB rfl _ _ rfl w.heap.size _ _ _ _ _ _ (l.map bv) w rfl rfl hA (by rw [List.length_map]; exact HN.out.symm) hl1 (bv_one l) hown hb1 hz1 (by omega) (by omega) ?_)
  intro v2 w2 hown2 hb2 _ _
  go_wp2
  go_ret
  refine ⟨v2, rfl, ?_, hb2⟩
  rw [List.length_cons, ← HN.out, Nat.add_comm n 1]
  exact hown2
theorem elay_any (u T : Nat) (v : Value) (w : World) (hu : u < 2 ^ 64) (hv : IsB (be (ebytes u) u) v w) (h3 : 3 ≤ T) (h10 : T ≤ 10) :
    Calls Try.prog 12 #[.int .i64 (T : Int), v] w (RetOwn w (elay u T)) := by
  have h := elaid_any T _ v w hv h3 h10 (by rw [be_len]; exact ebytes_pos u) (by rw [be_len]; exact ebytes_8 hu)
  rw [be_len] at h
  exact h
theorem RetOwn.e {w w' : World} {l : List UInt8} {v : Value} (h : w'.ownsRow w.heap.size 5 1 v l.length (l.map bv)) (hb : Below w.heap.size w w') : RetE w (l, 0) (.returned (.tuple #[v, .int .i64 0])) w' :=
  ⟨v, rfl, isB_own h, hb⟩
set_option maxHeartbeats 1000000 in
theorem eput_any (x t : Int) (s : Bool) (w : World) (h0 : -9223372036854775808 ≤ x) (h1 : x ≤ 9223372036854775807) :
    Calls Try.prog 7 #[.int .i64 x, .int .i64 t, .bool s] w (RetE w (eput x t s)) := by
  by_cases ht : t < 3
  · have hE := Lib.hid (eput_times (x := x) (s := s) (.inl ht))
    have d1 : decide (t < 3) = true := decide_eq_true ht
    go_enter Try.func7, Try.ntmps7
    go_wp2
    go_ret2
    rw [hE.out]
    exact RetE.nil _ (Below.refl _ _)
  · have d1 : decide (t < 3) = false := decide_eq_false ht
    by_cases ht2 : 10 < t
    · have hE := Lib.hid (eput_times (x := x) (s := s) (.inr ht2))
      have d2 : decide (10 < t) = true := decide_eq_true ht2
      go_enter Try.func7, Try.ntmps7
      go_wp2
      go_ret2
      rw [hE.out]
      exact RetE.nil _ (Below.refl _ _)
    · have d2 : decide (10 < t) = false := decide_eq_false ht2
      obtain ⟨T, rfl⟩ := Int.eq_ofNat_of_zero_le (show 0 ≤ t by omega)
      have h3 : 3 ≤ T := by omega
      have h10 : T ≤ 10 := by omega
      cases s with
      | false =>
        by_cases hx : x < 0
        · have hE := Lib.hid (eput_not (x := x) (s := false) (t := (T : Int)) (by unfold eplain; rw [if_neg (by simp), if_neg (by omega)]))
          have d3 : decide (x < 0) = true := decide_eq_true hx
          go_enter Try.func7, Try.ntmps7
          go_wp2
          go_ret2
          rw [hE.out]
          exact RetE.nil _ (Below.refl _ _)
        · have d3 : decide (x < 0) = false := decide_eq_false hx
          obtain ⟨u, rfl⟩ := Int.eq_ofNat_of_zero_le (show 0 ≤ x by omega)
          have hw : IntKind.u64.wrap (u : Int) = (u : Int) := by rw [IntKind.wrap_u64]; omega
          have hu64 : u < 2 ^ 64 := by omega
          have hE := Lib.hid (eput_ok (x := (u : Int)) (s := false) h3 h10 (by unfold eplain; rw [if_neg (by simp), if_pos (by omega), Int.toNat_natCast]))
          have HD := Lib.hid (edigits_any u w hu64)
          have HL := Lib.hid (fun v W hv => elay_any u T v W hu64 hv h3 h10)
          clear h0 h1 hx hu64
          go_enter Try.func7, Try.ntmps7
          go_wp2_with fail
          refine HD.out.mono ?_
          rintro e w2 ⟨v2, rfl, hv2, hb2⟩
          have HV2 := Lib.hid hv2
          have HB2 := Lib.hid hb2
          clear hv2 hb2
          go_wp2_with (go_at_call 12; refine (HL.out _ _ HV2.out).mono ?_)
          rintro e w3 ⟨v3, rfl, hv3, hb3⟩
          have HV3 := Lib.hid (isB_own hv3)
          have HB3 := Lib.hid (below_then HB2.out hb3)
          clear hv3 hb3
          go_wp2
          go_ret2
          rw [hE.out]
          exact ⟨_, rfl, HV3.out, HB3.out⟩
      | true =>
        have hz := vzig_bd h0 h1
        obtain ⟨u, hu⟩ : ∃ u, u = (vzig x).toNat := ⟨_, rfl⟩
        have hui : vzig x = (u : Int) := by omega
        have hu64 : u < 2 ^ 64 := by omega
        have hE := Lib.hid (eput_ok (x := x) (s := true) h3 h10 (by unfold eplain; rw [if_pos rfl, ← hu]))
        have HZ := Lib.hid (zig_any x w h0 h1)
        rw [hui] at HZ
        have HD := Lib.hid (edigits_any u w hu64)
        have HL := Lib.hid (fun v W hv => elay_any u T v W hu64 hv h3 h10)
        clear h0 h1 hz hu hui hu64
        rcases Bool.eq_false_or_eq_true (decide (x < 0)) with d3 | d3
        all_goals
          go_enter Try.func7, Try.ntmps7
          go_wp2_with (first | (go_at_call 11; refine HZ.out.mono ?_; rintro e w' ⟨rfl, rfl⟩) | (go_at_call 13; refine HD.out.mono ?_))
          rintro e w2 ⟨v2, rfl, hv2, hb2⟩
          have HV2 := Lib.hid hv2
          have HB2 := Lib.hid hb2
          clear hv2 hb2
          go_wp2_with (go_at_call 12; refine (HL.out _ _ HV2.out).mono ?_)
          rintro e w3 ⟨v3, rfl, hv3, hb3⟩
          have HV3 := Lib.hid (isB_own hv3)
          have HB3 := Lib.hid (below_then HB2.out hb3)
          clear hv3 hb3
          go_wp2
          go_ret2
          rw [hE.out]
          exact ⟨_, rfl, HV3.out, HB3.out⟩

theorem elook_none (A : Option Addr) (c : Nat) (w : World) : Calls Try.prog 16 #[.slice A 0 c] w fun e w' => e = .returned (.tuple #[.int .i64 0, .int .i64 0, .bool false]) ∧ w = w' := by
  go_enter Try.func16, Try.ntmps16
  go_wp2
  go_ret3
  exact ⟨rfl, rfl⟩
theorem elook_any (ad : Addr) (n c B K T : Nat) (ok : Bool) (w : World) (hc0 : w.cell? ad = some (.int .u8 (B : Int))) (hB : B < 256) (hn0 : 0 < n) (hn : n ≤ 1000000) (hK : K = B / 8 + 1) (hT : T = B % 8 + 3) (hok : ok = decide (K ≤ 8 ∧ K < n)) :
    Calls Try.prog 16 #[.slice (some ad) n c] w fun e w' => e = .returned (.tuple #[.int .i64 (K : Int), .int .i64 (T : Int), .bool ok]) ∧ Below w.heap.size w w' := by
  have hKi : (B : Int) / 8 + 1 = (K : Int) := by omega
  have hTi : (B : Int) % 8 + 3 = (T : Int) := by omega
  have hni : ((n : Int) == 0) = false := by simp; omega
  have hn0i : (0 : Int) < (n : Int) := by omega
  have hK32 : K ≤ 32 := by omega
  have hT10 : T ≤ 10 := by omega
  by_cases h8 : K ≤ 8
  · have d8 : decide ((K : Int) ≤ 8) = true := decide_eq_true (by omega)
    by_cases hl : K < n
    · have dl : decide ((K : Int) < (n : Int)) = true := decide_eq_true (by omega)
      rw [decide_eq_true (show K ≤ 8 ∧ K < n from ⟨h8, hl⟩)] at hok
      subst hok
      clear hK hT hn
      go_enter Try.func16, Try.ntmps16
      go_wp2
      go_quiet (fail)
      go_wp2
      go_ret3
      exact ⟨rfl, below_drewN (Below.refl _ _) nq⟩
    · have dl : decide ((K : Int) < (n : Int)) = false := decide_eq_false (by omega)
      rw [decide_eq_false (show ¬ (K ≤ 8 ∧ K < n) by omega)] at hok
      subst hok
      clear hK hT hn
      go_enter Try.func16, Try.ntmps16
      go_wp2
      go_quiet (fail)
      go_wp2
      go_ret3
      exact ⟨rfl, below_drewN (Below.refl _ _) nq⟩
  · have d8 : decide ((K : Int) ≤ 8) = false := decide_eq_false (by omega)
    rw [decide_eq_false (show ¬ (K ≤ 8 ∧ K < n) by omega)] at hok
    subst hok
    clear hK hT hn
    go_enter Try.func16, Try.ntmps16
    go_wp2
    go_quiet (fail)
    go_wp2
    go_ret3
    exact ⟨rfl, below_drewN (Below.refl _ _) nq⟩

/-- A number out of its bytes: as few as it needs, and with room. -/
def enum (l : List UInt8) (s : Bool) : Option Int := if ebytes (bval l) = l.length then emade (bval l) s else none
def ENumRel (l : List UInt8) (n : Nat) (v i : Value) : Prop := ∃ (k : Nat) (U : Int), k ≤ n ∧ i = .int .i64 (k : Int) ∧ v = .int .u64 U ∧ U = ((bval (l.take k) : Nat) : Int)
set_option maxHeartbeats 1000000 in
theorem enumber_any (s : Bool) (l : List UInt8) (v : Value) (w : World) (hv : IsB l v w) (h8 : l.length ≤ 8) :
    Calls Try.prog 17 #[.bool s, v] w fun e w' => e = .returned (.tuple #[.int .i64 ((enum l s).getD 0), .bool (enum l s).isSome]) ∧ w = w' := by
  obtain ⟨A, c, rfl, hA, hnc, hcm, hl⟩ := hv
  obtain ⟨n, hn⟩ : ∃ n, n = l.length := ⟨_, rfl⟩
  rw [← hn] at hA hnc h8 ⊢
  have HN := Lib.hid hn
  have HLi := Lib.hid hl
  clear hn hl hA hnc hcm
  go_enter Try.func17, Try.ntmps17
  go_wp2
  go_loop [6, 11] (ENumRel l n) (fun _ i => n - (intOf i).toNat)
  case atStart => exact ⟨0, 0, by omega, rfl, rfl, by simp [bval]⟩
  case round =>
    obtain ⟨k, U, hk, rfl, rfl, hU⟩ := hrel
    have HU := Lib.hid hU
    by_cases hlt : k < n
    · have hlt2 : (k : Int) < (n : Int) := by omega
      have hkl : k < l.length := by have := HN.out; omega
      obtain ⟨ad, rfl, _, hcell⟩ := HLi.out.cell (k := k) (by rw [List.length_map]; exact hkl)
      obtain ⟨y, hy⟩ : ∃ y : Nat, y = l[k].toNat := ⟨_, rfl⟩
      have hy8 : y < 256 := by rw [hy]; exact UInt8.toNat_lt _
      have hcy : w.cell? (ad.add k) = some (.int .u8 (y : Int)) := by rw [hcell, List.getElem_map, hy]; rfl
      obtain ⟨X, hX⟩ : ∃ X, X = bval (l.take k) := ⟨_, rfl⟩
      rw [← hX] at hU
      subst hU
      have hX7 : (X : Int) < 72057594037927936 := by rw [hX]; exact bval_seven _ (by omega)
      obtain ⟨Y, hY⟩ : ∃ Y, Y = X * 2 ^ 8 := ⟨_, rfl⟩
      have hsh : IntKind.u64.wrap ((X : Int) * 2 ^ 8) = (Y : Int) := by rw [IntKind.wrap_u64]; omega
      have hsh2 : IntKind.u64.wrap ((X : Int) * 256) = (Y : Int) := by rw [IntKind.wrap_u64]; omega
      have hyw : IntKind.u64.wrap (y : Int) = (y : Int) := by rw [IntKind.wrap_u64]; omega
      have hor := or_word 8 Y y (by rw [hY]; exact Nat.mul_mod_left _ _) (by omega) (by omega)
      obtain ⟨Z, hZ⟩ : ∃ Z, Z = Y + y := ⟨_, rfl⟩
      rw [← hZ] at hor
      have HZ : Hid (Z = bval (l.take (k + 1))) := Lib.hid (by rw [hZ, hY, bval_at _ _ hkl, ← hX, ← hy]; omega)
      clear hcell hy hX hX7 hY hZ HU
      go_wp2
      go_round
      case rel => exact ⟨k + 1, Z, by omega, by go_num, rfl, by rw [HZ.out]⟩
      case measure => simp [intOf]; omega
    · obtain rfl : k = n := by omega
      have hlt2 : ¬ (k : Int) < (k : Int) := by omega
      obtain ⟨u, hu⟩ : ∃ u, u = bval l := ⟨_, rfl⟩
      have hUu : U = (u : Int) := by rw [hU, List.take_of_length_le (by have := HN.out; omega), hu]
      have hu64 : u < 2 ^ 64 := by
        rw [hu, ← List.take_length (l := l)]
        exact bval_eight _ (by have := HN.out; omega)
      obtain ⟨m, hm⟩ : ∃ m, m = ebytes u := ⟨_, rfl⟩
      have HS := Lib.hid (fun W => esize_any u W hu64)
      rw [← hm] at HS
      by_cases hs : m = k
      · have hsi : ((k : Int) != (m : Int)) = false := by rw [hs]; simp
        have HE := Lib.hid (show enum l s = emade u s by unfold enum; rw [← hu, ← hm, ← HN.out, if_pos hs])
        cases s with
        | true =>
          have HZ := Lib.hid (fun W => zag_any (u : Int) W (by omega) (by omega))
          have HM := Lib.hid (emade_true u)
          subst hUu
          clear hu hu64 hm hU HU
          go_wp2_with (first | (go_at_call 19; refine (HS.out _).mono ?_; rintro e w' ⟨rfl, rfl⟩) | (go_at_call 21; refine (HZ.out _).mono ?_; rintro e w' ⟨rfl, rfl⟩))
          go_ret2
          rw [HE.out, HM.out]
          exact ⟨rfl, rfl⟩
        | false =>
          by_cases hx : U < 9223372036854775808
          · have HM := Lib.hid (emade_low (by omega) hx)
            have hmx : decide ((9223372036854775807 : Int) < U) = false := decide_eq_false (by omega)
            have hU0 : 0 ≤ U := by omega
            have hUw : IntKind.i64.wrap U = U := by rw [IntKind.wrap_i64]; omega
            rw [← hUu] at HS
            have HT : Hid (U.toNat = u) := Lib.hid (by omega)
            clear hu hu64 hm hU HU hUu
            go_wp2_with (go_at_call 19; refine (HS.out _).mono ?_; rintro e w' ⟨rfl, rfl⟩)
            go_ret2
            rw [HE.out, ← HT.out, HM.out]
            exact ⟨rfl, rfl⟩
          · have HM := Lib.hid (emade_high (U := U) (by omega))
            have hmx : decide ((9223372036854775807 : Int) < U) = true := decide_eq_true (by omega)
            rw [← hUu] at HS
            have HT : Hid (U.toNat = u) := Lib.hid (by omega)
            clear hu hu64 hm hU HU hUu hx
            go_wp2_with (go_at_call 19; refine (HS.out _).mono ?_; rintro e w' ⟨rfl, rfl⟩)
            go_ret2
            rw [HE.out, ← HT.out, HM.out]
            exact ⟨rfl, rfl⟩
      · have hsi : ((k : Int) != (m : Int)) = true := by simp; omega
        have HE := Lib.hid (show enum l s = none by unfold enum; rw [← hu, ← hm, ← HN.out, if_neg hs])
        subst hUu
        clear hu hu64 hm hU HU
        go_wp2_with (go_at_call 19; refine (HS.out _).mono ?_; rintro e w' ⟨rfl, rfl⟩)
        go_ret2
        rw [HE.out]
        exact ⟨rfl, rfl⟩

end Go.Proofs.Ythbmgedfhpdmpaa
