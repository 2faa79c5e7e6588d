
/- Contracts of layer 7's reference: Plain, Made, Put. -/

import Derived.Test.YthbmgedfhpdmpaaEPlain

import Derived.Test.YthbmgedfhpdmpaaLeaf

import Derived.Test.YthbmgedfhpdmpaaWMost

namespace Go.Proofs.Ythbmgedfhpdmpaa

open Go.RowKit

theorem rplain7_any (x : Int) (s : Bool) (w : World) (h0 : -9223372036854775808 ≤ x) (h1 : x ≤ 9223372036854775807) :
    Calls Try.prog 14 #[.int .i64 x, .bool s] w fun e w' => e = .returned (.tuple #[.int .u64 (((eplain x s).getD 0 : Nat) : Int), .bool (eplain x s).isSome]) ∧ w = w' := by
  cases s with
  | true =>
    have hE := Lib.hid (show eplain x true = some (vzig x).toNat by unfold eplain; rw [if_pos rfl])
    have hb := Lib.hid (vzig_bd h0 h1)
    go_enter Try.func14, Try.ntmps14
    go_wp2_with (go_at_call 20; refine (rzig_any x _ h0 h1).mono ?_; rintro e w' ⟨rfl, rfl⟩)
    go_ret2
    rw [hE.out]
    exact ⟨by rw [Option.getD_some, Option.isSome_some, Int.toNat_of_nonneg hb.out.1]; rfl, rfl⟩
  | false =>
    by_cases hx : 0 ≤ x
    · have hE := Lib.hid (show eplain x false = some x.toNat by unfold eplain; rw [if_neg (by simp), if_pos hx])
      have d : decide (0 ≤ x) = true := decide_eq_true hx
      have hm : ∀ (ts : Array TypeId) (t : TypeId) (W : World), (Builtin.max_ ts t #[.int .i64 x, .int .i64 0]).run Try.prog W = .ok (.int .i64 x) W := fun ts t W => by
        rw [run_max_int2]
        congr 2
        split <;> omega
      go_enter Try.func14, Try.ntmps14
      go_wp2
      go_ret2
      rw [hE.out]
      exact ⟨by rw [Option.getD_some, Option.isSome_some, Int.toNat_of_nonneg hx]; rfl, rfl⟩
    · have hE := Lib.hid (show eplain x false = none by unfold eplain; rw [if_neg (by simp), if_neg hx])
      have d : decide (0 ≤ x) = false := decide_eq_false hx
      have hm : ∀ (ts : Array TypeId) (t : TypeId) (W : World), (Builtin.max_ ts t #[.int .i64 x, .int .i64 0]).run Try.prog W = .ok (.int .i64 0) W := fun ts t W => by
        rw [run_max_int2]
        congr 2
        split <;> omega
      go_enter Try.func14, Try.ntmps14
      go_wp2
      go_ret2
      rw [hE.out]
      exact ⟨rfl, rfl⟩
theorem emade_true (u : Nat) : emade u true = some (vzag (u : Int)) := by unfold emade; rw [if_pos rfl]
theorem emade_low {U : Int} (h0 : 0 ≤ U) (h : U < 9223372036854775808) : emade U.toNat false = some U := by unfold emade; rw [if_neg (by simp), if_pos (by omega), Int.toNat_of_nonneg h0]
theorem emade_high {U : Int} (h : 9223372036854775808 ≤ U) : emade U.toNat false = none := by unfold emade; rw [if_neg (by simp), if_neg (by omega)]
theorem rmade7_any (U : Int) (s : Bool) (w : World) (h0 : 0 ≤ U) (h1 : U < 18446744073709551616) :
    Calls Try.prog 18 #[.int .u64 U, .bool s] w fun e w' => e = .returned (.tuple #[.int .i64 ((emade U.toNat s).getD 0), .bool (emade U.toNat s).isSome]) ∧ w = w' := by
  cases s with
  | true =>
    have hE := Lib.hid (emade_true U.toNat)
    go_enter Try.func18, Try.ntmps18
    go_wp2_with (go_at_call 22; refine (rzag_any U _ h0 h1).mono ?_; rintro e w' ⟨rfl, rfl⟩)
    go_ret2
    rw [hE.out, Int.toNat_of_nonneg h0]
    exact ⟨rfl, rfl⟩
  | false =>
    by_cases hx : U < 9223372036854775808
    · have hE := Lib.hid (emade_low h0 hx)
      have hd : ¬ (9223372036854775808 : Int) ≤ U := by omega
      go_enter Try.func18, Try.ntmps18
      go_wp2
      go_ret2
      rw [hE.out]
      exact ⟨rfl, rfl⟩
    · have hE := Lib.hid (emade_high (U := U) (by omega))
      have hd : (9223372036854775808 : Int) ≤ U := by omega
      go_enter Try.func18, Try.ntmps18
      go_wp2
      go_ret2
      rw [hE.out]
      exact ⟨rfl, rfl⟩
theorem bv_low7 {y : Nat} (h : y < 256) : Value.int .u8 (y : Int) = bv (UInt8.ofNat y) := by unfold bv; congr 1; simp; omega
theorem own_one (w : World) (e : TypeId) (u : Value) {base : Nat} (hb : base ≤ w.heap.size) : (w.alloc (.cells #[u] e)).ownsRow base e 1 (.slice (some ⟨w.heap.size, 0, none⟩) 1 1) 1 [u] :=
  ⟨by simp, .inr ⟨w.heap.size, 1, #[u], rfl, hb, heap_alloc_new w _, Nat.le_refl _, by unfold maxLen; omega, by simp, by simp⟩⟩
theorem eput_times {x t : Int} {s : Bool} (h : t < 3 ∨ 10 < t) : eput x t s = ([], 1) := by unfold eput; rw [if_pos h]
theorem eput_not {x t : Int} {s : Bool} (h : eplain x s = none) : eput x t s = ([], 1) := by unfold eput; split <;> simp [h]
theorem eput_ok {x : Int} {t u : Nat} {s : Bool} (h3 : 3 ≤ t) (h10 : t ≤ 10) (h : eplain x s = some u) : eput x t s = (elay u t, 0) := by
  unfold eput
  rw [if_neg (by omega), h, Int.toNat_natCast]
def RPut7Rel (l : List UInt8) (n u : Nat) (w : World) (v i : Value) (wr : World) : Prop :=
  ∃ (k : Nat) (m : List UInt8), k ≤ n ∧ i = .int .i64 ((k : Int) - 1) ∧ m ++ be k u = l ∧ wr.ownsRow w.heap.size 5 1 v m.length (m.map bv) ∧ Below w.heap.size w wr
set_option maxHeartbeats 1000000 in
set_option maxRecDepth 100000 in
theorem rput7_any (x t : Int) (s : Bool) (w : World) (h0 : -9223372036854775808 ≤ x) (h1 : x ≤ 9223372036854775807) :
    Calls Try.prog 8 #[.int .i64 x, .int .i64 t, .bool s] w (RetE w (eput x t s)) := by
  have HP := Lib.hid (fun W => rplain7_any x s W h0 h1)
  have hu64 : (eplain x s).getD 0 < 2 ^ 64 := by
    cases he : eplain x s with
    | none => simp
    | some u => exact eplain_lt h0 h1 he
  obtain ⟨u, hu⟩ : ∃ u, u = (eplain x s).getD 0 := ⟨_, rfl⟩
  obtain ⟨ok, hok⟩ : ∃ ok, ok = (eplain x s).isSome := ⟨_, rfl⟩
  rw [← hu, ← hok] at HP
  rw [← hu] at hu64
  by_cases ht : t < 3
  · have hE := Lib.hid (eput_times (x := x) (s := s) (.inl ht))
    have d1 : decide (t < 3) = true := decide_eq_true ht
    clear hu hok hu64
    go_enter Try.func8, Try.ntmps8
    go_wp2_with (go_at_call 14; refine (HP.out _).mono ?_; rintro e w' ⟨rfl, rfl⟩)
    go_ret2
    rw [hE.out]
    exact RetE.nil _ (Below.refl _ _)
  · have d1 : decide (t < 3) = false := decide_eq_false ht
    by_cases ht2 : 10 < t
    · have hE := Lib.hid (eput_times (x := x) (s := s) (.inr ht2))
      have d2 : decide (10 < t) = true := decide_eq_true ht2
      clear hu hok hu64
      go_enter Try.func8, Try.ntmps8
      go_wp2_with (go_at_call 14; refine (HP.out _).mono ?_; rintro e w' ⟨rfl, rfl⟩)
      go_ret2
      rw [hE.out]
      exact RetE.nil _ (Below.refl _ _)
    · have d2 : decide (10 < t) = false := decide_eq_false ht2
      cases ok with
      | false =>
        have hE := Lib.hid (eput_not (x := x) (s := s) (t := t) (by simpa using hok.symm))
        clear hu hok hu64
        go_enter Try.func8, Try.ntmps8
        go_wp2_with (go_at_call 14; refine (HP.out _).mono ?_; rintro e w' ⟨rfl, rfl⟩)
        go_ret2
        rw [hE.out]
        exact RetE.nil _ (Below.refl _ _)
      | true =>
        obtain ⟨T, rfl⟩ := Int.eq_ofNat_of_zero_le (show 0 ≤ t by omega)
        have hsome : eplain x s = some u := by
          cases he : eplain x s with
          | none => rw [he] at hok; simp at hok
          | some u' => rw [he] at hu; simp at hu; rw [hu]
        have hE := Lib.hid (eput_ok (t := T) (by omega) (by omega) hsome)
        obtain ⟨b, hb⟩ : ∃ b, b = wbits u := ⟨_, rfl⟩
        have hb64 : b ≤ 64 := by rw [hb]; exact wbits_64 hu64
        obtain ⟨n, hn⟩ : ∃ n, n = ebytes u := ⟨_, rfl⟩
        have hn1 : 1 ≤ n := by rw [hn]; exact ebytes_pos u
        have hn8 : n ≤ 8 := by rw [hn]; exact ebytes_8 hu64
        have hnb : n = max 1 ((b + 7) / 8) := by rw [hn, hb]; rfl
        obtain ⟨c0, hc0⟩ : ∃ c0, c0 = 8 * (n - 1) + (T - 3) := ⟨_, rfl⟩
        have hc64 : c0 < 64 := by omega
        obtain ⟨q, hq⟩ : ∃ q : Nat, q = (b + 7) / 8 := ⟨_, rfl⟩
        have hqi : ((b : Int) + 7) / 8 = (q : Int) := by omega
        have hm : ∀ (ts : Array TypeId) (t : TypeId) (W : World), (Builtin.max_ ts t #[.int .i64 1, .int .i64 (q : Int)]).run Try.prog W = .ok (.int .i64 (n : Int)) W := fun ts t W => by
          rw [run_max_int2]
          congr 2
          split <;> omega
        have hci : 8 * ((n : Int) - 1) + (T : Int) - 3 = (c0 : Int) := by omega
        have HB := Lib.hid (fun W => rbits_any u W hu64)
        rw [← hb] at HB
        have HL := Lib.hid (show elay u T = UInt8.ofNat c0 :: be n u by unfold elay; rw [← hn, ← hc0])
        have HU := Lib.hid hu64
        clear hu hok hu64 hb hn hnb hc0 hq
        go_enter Try.func8, Try.ntmps8
        go_wp2_with (first | (go_at_call 14; refine (HP.out _).mono ?_; rintro e w' ⟨rfl, rfl⟩) | (go_at_call 15; refine (HB.out _).mono ?_; rintro e w' ⟨rfl, rfl⟩))
        go_loopw [11, 12] (RPut7Rel (elay u T) n u w) (fun _ i _ => (intOf i + 1).toNat)
        case atStart =>
          refine ⟨n, [UInt8.ofNat c0], Nat.le_refl _, rfl, by rw [HL.out]; rfl, ?_, (Below.refl _ _).alloc (Nat.le_refl _) _⟩
          have h1 := own_one w 5 (.int .u8 (c0 : Int)) (Nat.le_refl _)
          rw [bv_low7 (by omega)] at h1 ⊢
          exact h1
        case round =>
          obtain ⟨k, m, hk, rfl, hm', hown, hbw⟩ := hrel
          have HM := Lib.hid hm'
          have hz := hbw.size
          have hlen : m.length ≤ 9 := by
            have := congrArg List.length hm'
            rw [HL.out, List.length_append, List.length_cons, be_len, be_len] at this
            omega
          clear hm' hqi hm hci
          cases k with
          | zero =>
            go_wp2
            go_ret2
            have h2 := HM.out
            rw [be, List.append_nil] at h2
            rw [hE.out, ← h2]
            exact ⟨_, rfl, isB_own hown, hbw⟩
          | succ j =>
            obtain ⟨y, hy⟩ : ∃ y, y = u / 256 ^ j := ⟨_, rfl⟩
            obtain ⟨d, hd⟩ : ∃ d, d = 8 * j := ⟨_, rfl⟩
            have hdi : 8 * (j : Int) = (d : Int) := by omega
            have hd64 : d ≤ 64 := by omega
            have hyi : (u : Int) / 2 ^ d = (y : Int) := by
              rw [hy, p256, ← hd]; simp
            obtain ⟨z, hz'⟩ : ∃ z, z = y % 256 := ⟨_, rfl⟩
            have hz256 : z < 256 := by omega
            have hzi : (y : Int) % 256 = (z : Int) := by omega
            have hzw : IntKind.u8.wrap (y : Int) = (z : Int) := by rw [IntKind.wrap_u8]; omega
            have hji : ((j + 1 : Nat) : Int) - 1 = (j : Int) := by omega
            have hbe := Lib.hid (show be (j + 1) u = UInt8.ofNat z :: be j u by rw [be, hz', hy])
            clear hy hd hz'
            rw [hji]
            go_wp2_with (at_builtin; refine wpList_push elemB rfl _ _ rfl w.heap.size _ _ _ (.int .u8 (z : Int)) wr w rfl rfl rfl rfl hown hbw hz (by omega) (by omega) ?_)
            intro v5 w5 hown5 hb5 _ _
            rw [bv_low7 (by omega)] at hown5
            go_wp2
            go_roundw
            case rel =>
              refine ⟨j, m ++ [UInt8.ofNat z], by omega, rfl, ?_, by simpa using hown5, hb5⟩
              have h2 := HM.out
              rw [hbe.out] at h2
              rw [← h2]
              simp
            case measure => simp [intOf]
end Go.Proofs.Ythbmgedfhpdmpaa
