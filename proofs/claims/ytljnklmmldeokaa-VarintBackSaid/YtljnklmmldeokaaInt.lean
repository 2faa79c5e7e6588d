/- Contracts of the numbers with a sign, or without, and of what stands at the head of all statements. -/
import Derived.Test.YtljnklmmldeokaaPut
import Derived.Test.YtljnklmmldeokaaRTake
namespace Go.Proofs.Ytljnklmmldeokaa
open Go.RowKit

/-- The number that is laid down. -/
def vint (x : Int) (s : Bool) : Nat := if s = true then (vzig x).toNat else (x % 18446744073709551616).toNat
/-- What is taken as a number with a sign, or without. -/
def vtint (l : List UInt8) (s : Bool) : Option (Int × List UInt8) :=
  match vtake l, s with
  | none, _ => none
  | some p, true => some (vzag (p.1 : Int), p.2)
  | some p, false => if 9223372036854775808 ≤ (p.1 : Int) then none else some ((p.1 : Int), p.2)
theorem vtint_none {l : List UInt8} (s : Bool) (h : vtake l = none) : vtint l s = none := by unfold vtint; rw [h]
theorem vtint_true {l r : List UInt8} {u : Nat} (h : vtake l = some (u, r)) : vtint l true = some (vzag (u : Int), r) := by unfold vtint; rw [h]
theorem vtint_small {l r : List UInt8} {u : Nat} (h : vtake l = some (u, r)) (hu : (u : Int) < 9223372036854775808) : vtint l false = some ((u : Int), r) := by
  unfold vtint; rw [h]; exact if_neg (by show ¬ (9223372036854775808 : Int) ≤ (u : Int); omega)
theorem vtint_big {l r : List UInt8} {u : Nat} (h : vtake l = some (u, r)) (hu : 9223372036854775808 ≤ (u : Int)) : vtint l false = none := by
  unfold vtint; rw [h]; exact if_pos hu

set_option maxHeartbeats 400000 in
theorem putInt_any (A : Option Addr) (n c : Nat) (x : Int) (s : Bool) (l : List UInt8) (w : World) (hA : A = none → n = 0) (hn : l.length = n) (hnb : n ≤ 1000000) (hl : Lies w A (l.map bv)) (h0 : -9223372036854775808 ≤ x) (h1 : x ≤ 9223372036854775807) :
    Calls Try.prog 12 #[.slice A n c, .int .i64 x, .bool s] w (RetB w (l ++ vput (vint x s))) := by
  cases s with
  | true =>
    obtain ⟨hz0, hz1⟩ := vzig_bd h0 h1
    go_enter Try.func12, Try.ntmps12
    go_wp2_with (first | (go_at_call 18; refine (zig_any _ _ h0 h1).mono ?_; rintro e w' ⟨rfl, rfl⟩) | (go_at_call 10; refine (put_any _ _ _ _ l _ hA hn hnb hl hz0 hz1).mono ?_; intro e w' h; obtain ⟨v, rfl, hv, hb⟩ := h.isB; have HV := Lib.hid hv; clear hv h))
    go_ret
    exact HV.out.ret hb
  | false =>
    have hw : IntKind.u64.wrap x = x % 18446744073709551616 := IntKind.wrap_u64 x
    have hu0 : 0 ≤ x % 18446744073709551616 := by omega
    have hu1 : x % 18446744073709551616 < 18446744073709551616 := by omega
    by_cases hx : 0 ≤ x
    · have he : x % 18446744073709551616 = x := by omega
      have HE := Lib.hid he
      clear he hu0 hu1 hw
      go_enter Try.func12, Try.ntmps12
      go_wp2_with (go_at_call 10; refine (put_any _ _ _ _ l _ hA hn hnb hl hx (by omega)).mono ?_; intro e w' h; obtain ⟨v, rfl, hv, hb⟩ := h.isB; have HV := Lib.hid hv; clear hv h)
      go_ret
      unfold vint
      rw [if_neg (by decide), HE.out]
      exact HV.out.ret hb
    · have hx' : x < 0 := by omega
      go_enter Try.func12, Try.ntmps12
      go_wp2_with (go_at_call 10; refine (put_any _ _ _ _ l _ hA hn hnb hl hu0 hu1).mono ?_; intro e w' h; obtain ⟨v, rfl, hv, hb⟩ := h.isB; have HV := Lib.hid hv; clear hv h)
      go_ret
      exact HV.out.ret hb

set_option maxHeartbeats 400000 in
theorem rputInt_any (A : Option Addr) (n c : Nat) (x : Int) (s : Bool) (l : List UInt8) (w : World) (hA : A = none → n = 0) (hn : l.length = n) (hnb : n ≤ 1000000) (hl : Lies w A (l.map bv)) (h0 : -9223372036854775808 ≤ x) (h1 : x ≤ 9223372036854775807) :
    Calls Try.prog 13 #[.slice A n c, .int .i64 x, .bool s] w (RetB w (l ++ vput (vint x s))) := by
  cases s with
  | true =>
    obtain ⟨hz0, hz1⟩ := vzig_bd h0 h1
    go_enter Try.func13, Try.ntmps13
    go_wp2_with (first | (go_at_call 19; refine (rzig_any _ _ h0 h1).mono ?_; rintro e w' ⟨rfl, rfl⟩) | (go_at_call 11; refine (rput_any _ _ _ _ l _ hA hn hnb hl hz0 hz1).mono ?_; intro e w' h; obtain ⟨v, rfl, hv, hb⟩ := h.isB; have HV := Lib.hid hv; clear hv h))
    go_ret
    exact HV.out.ret hb
  | false =>
    have hw : IntKind.u64.wrap x = x % 18446744073709551616 := IntKind.wrap_u64 x
    have hu0 : 0 ≤ x % 18446744073709551616 := by omega
    have hu1 : x % 18446744073709551616 < 18446744073709551616 := by omega
    by_cases hx : 0 ≤ x
    · have he : x % 18446744073709551616 = x := by omega
      have HE := Lib.hid he
      clear he hu0 hu1 hw
      go_enter Try.func13, Try.ntmps13
      go_wp2_with (go_at_call 11; refine (rput_any _ _ _ _ l _ hA hn hnb hl hx (by omega)).mono ?_; intro e w' h; obtain ⟨v, rfl, hv, hb⟩ := h.isB; have HV := Lib.hid hv; clear hv h)
      go_ret
      unfold vint
      rw [if_neg (by decide), HE.out]
      exact HV.out.ret hb
    · have hx' : x < 0 := by omega
      go_enter Try.func13, Try.ntmps13
      go_wp2_with (go_at_call 11; refine (rput_any _ _ _ _ l _ hA hn hnb hl hu0 hu1).mono ?_; intro e w' h; obtain ⟨v, rfl, hv, hb⟩ := h.isB; have HV := Lib.hid hv; clear hv h)
      go_ret
      exact HV.out.ret hb

set_option maxHeartbeats 400000 in
set_option maxRecDepth 100000 in
theorem takeInt_any (A : Option Addr) (n c : Nat) (s : Bool) (l : List UInt8) (w : World) (hA : A = none → n = 0) (hn : l.length = n) (hnc : n ≤ c) (hnb : n ≤ 1000000) (hl : Lies w A (l.map bv)) :
    Calls Try.prog 16 #[.slice A n c, .bool s] w (RetT .i64 w (vtint l s)) := by
  cases ht : vtake l with
  | none =>
    have hc := take_any A n c l w hA hn hnc hnb hl
    rw [ht] at hc
    have HC := Lib.hid hc
    have HT := Lib.hid ht
    clear hc ht
    go_enter Try.func16, Try.ntmps16
    go_wp2_with (go_at_call 14; refine HC.out.mono ?_; rintro e w' ⟨rfl, hb⟩)
    go_ret3
    rw [vtint_none _ HT.out]
    exact ⟨rfl, hb⟩
  | some p =>
    obtain ⟨u, r⟩ := p
    have hu := (vtake_some ht).2
    have hu0 : (0 : Int) ≤ (u : Int) := by omega
    have hu1 : (u : Int) < 18446744073709551616 := by omega
    have hc := take_any A n c l w hA hn hnc hnb hl
    rw [ht] at hc
    have ht' : Option.map (fun p : Nat × List UInt8 => ((p.1 : Int), p.2)) (some (u, r)) = some ((u : Int), r) := rfl
    rw [ht'] at hc
    obtain ⟨U, hU⟩ : ∃ U : Int, U = (u : Int) := ⟨_, rfl⟩
    rw [← hU] at hc hu0 hu1
    have HU := Lib.hid hU
    have HC := Lib.hid hc
    have HT := Lib.hid ht
    clear hc ht hu ht' hU
    cases s with
    | true =>
      go_enter Try.func16, Try.ntmps16
      go_wp2_with (first | (go_at_call 14; refine HC.out.mono ?_; rintro e w' ⟨A1, c1, rfl, h2⟩; have H2 := Lib.hid h2; clear h2) | (go_at_call 20; refine (zag_any _ _ hu0 hu1).mono ?_; rintro e w2 ⟨rfl, rfl⟩))
      go_ret3
      rw [vtint_true HT.out, ← HU.out]
      exact ⟨A1, c1, rfl, H2.out⟩
    | false =>
      by_cases hbig : U < 9223372036854775808
      · have hb2 : ¬ (9223372036854775807 : Int) < U := by omega
        have hb3 : ¬ (9223372036854775808 : Int) ≤ U := by omega
        go_enter Try.func16, Try.ntmps16
        go_wp2_with (go_at_call 14; refine HC.out.mono ?_; rintro e w' ⟨A1, c1, rfl, h2⟩; have H2 := Lib.hid h2; clear h2)
        go_ret3
        rw [vtint_small HT.out (by have := HU.out; omega), ← HU.out]
        exact ⟨A1, c1, rfl, H2.out⟩
      · have hb2 : (9223372036854775807 : Int) < U := by omega
        have hb3 : (9223372036854775808 : Int) ≤ U := by omega
        go_enter Try.func16, Try.ntmps16
        go_wp2_with (go_at_call 14; refine HC.out.mono ?_; rintro e w' ⟨A1, c1, rfl, h2⟩; have H2 := Lib.hid h2; clear h2)
        go_ret3
        rw [vtint_big HT.out (by have := HU.out; omega)]
        exact ⟨rfl, H2.out.2.2.2.2⟩

set_option maxHeartbeats 400000 in
set_option maxRecDepth 100000 in
theorem rtakeInt_any (A : Option Addr) (n c : Nat) (s : Bool) (l : List UInt8) (w : World) (hA : A = none → n = 0) (hn : l.length = n) (hnc : n ≤ c) (hnb : n ≤ 1000000) (hl : Lies w A (l.map bv)) :
    Calls Try.prog 17 #[.slice A n c, .bool s] w (RetT .i64 w (vtint l s)) := by
  cases ht : vtake l with
  | none =>
    have hc := rtake_any A n c l w hA hn hnc hnb hl
    rw [ht] at hc
    have HC := Lib.hid hc
    have HT := Lib.hid ht
    clear hc ht
    go_enter Try.func17, Try.ntmps17
    go_wp2_with (go_at_call 15; refine HC.out.mono ?_; rintro e w' ⟨rfl, hb⟩)
    go_ret3
    rw [vtint_none _ HT.out]
    exact ⟨rfl, hb⟩
  | some p =>
    obtain ⟨u, r⟩ := p
    have hu := (vtake_some ht).2
    have hu0 : (0 : Int) ≤ (u : Int) := by omega
    have hu1 : (u : Int) < 18446744073709551616 := by omega
    have hc := rtake_any A n c l w hA hn hnc hnb hl
    rw [ht] at hc
    have ht' : Option.map (fun p : Nat × List UInt8 => ((p.1 : Int), p.2)) (some (u, r)) = some ((u : Int), r) := rfl
    rw [ht'] at hc
    obtain ⟨U, hU⟩ : ∃ U : Int, U = (u : Int) := ⟨_, rfl⟩
    rw [← hU] at hc hu0 hu1
    have HU := Lib.hid hU
    have HC := Lib.hid hc
    have HT := Lib.hid ht
    clear hc ht hu ht' hU
    cases s with
    | true =>
      go_enter Try.func17, Try.ntmps17
      go_wp2_with (first | (go_at_call 15; refine HC.out.mono ?_; rintro e w' ⟨A1, c1, rfl, h2⟩; have H2 := Lib.hid h2; clear h2) | (go_at_call 21; refine (rzag_any _ _ hu0 hu1).mono ?_; rintro e w2 ⟨rfl, rfl⟩))
      go_ret3
      rw [vtint_true HT.out, ← HU.out]
      exact ⟨A1, c1, rfl, H2.out⟩
    | false =>
      by_cases hbig : U < 9223372036854775808
      · have hb2 : ¬ (9223372036854775807 : Int) < U := by omega
        have hb3 : ¬ (9223372036854775808 : Int) ≤ U := by omega
        go_enter Try.func17, Try.ntmps17
        go_wp2_with (go_at_call 15; refine HC.out.mono ?_; rintro e w' ⟨A1, c1, rfl, h2⟩; have H2 := Lib.hid h2; clear h2)
        go_ret3
        rw [vtint_small HT.out (by have := HU.out; omega), ← HU.out]
        exact ⟨A1, c1, rfl, H2.out⟩
      · have hb2 : (9223372036854775807 : Int) < U := by omega
        have hb3 : (9223372036854775808 : Int) ≤ U := by omega
        go_enter Try.func17, Try.ntmps17
        go_wp2_with (go_at_call 15; refine HC.out.mono ?_; rintro e w' ⟨A1, c1, rfl, h2⟩; have H2 := Lib.hid h2; clear h2)
        go_ret3
        rw [vtint_big HT.out (by have := HU.out; omega)]
        exact ⟨rfl, H2.out.2.2.2.2⟩
end Go.Proofs.Ytljnklmmldeokaa
