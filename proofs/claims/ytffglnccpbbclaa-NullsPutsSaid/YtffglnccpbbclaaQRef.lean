
/- Contracts of layer 6's reference: Same, Count, Put, Take. -/

import Derived.Test.YtffglnccpbbclaaSl

import Derived.Test.YtffglnccpbbclaaQPlain

import Derived.Test.YtffglnccpbbclaaYRTake

import Derived.Test.YtffglnccpbbclaaBGen

namespace Go.Proofs.Ytffglnccpbbclaa

open Go.RowKit

theorem blv_one (l : List Bool) : ∀ u ∈ l.map Value.bool, u.oneCell' = true := vs_one (fun _ => rfl) l
def SameRelL (l m : List Bool) (w : World) (i : Value) (wr : World) : Prop := ∃ k : Nat, i = .int .i64 (k : Int) ∧ k ≤ l.length ∧ l.take k = m.take k ∧ Below w.heap.size w wr
set_option maxHeartbeats 1000000 in
theorem sameL_any (l m : List Bool) (u v : Value) (w : World) (hl : IsV Value.bool l u w) (hm : IsV Value.bool m v w) (hb : l.length ≤ 1000000) (hb' : m.length ≤ 1000000) :
    Calls Try.prog 13 #[u, v] w fun e w' => e = .returned (.bool (l == m)) ∧ Below w.heap.size w w' := by
  have HLv := Lib.hid hl
  have HMv := Lib.hid hm
  obtain ⟨A, c, rfl, _, _, _, _⟩ := hl
  obtain ⟨B, c', rfl, _, _, _, _⟩ := hm
  obtain ⟨n, hn⟩ : ∃ n, n = l.length := ⟨_, rfl⟩
  obtain ⟨n', hn'⟩ : ∃ n', n' = m.length := ⟨_, rfl⟩
  rw [← hn] at hb HLv ⊢
  rw [← hn'] at hb' HMv ⊢
  have HN := Lib.hid hn
  have HN' := Lib.hid hn'
  clear hn hn'
  by_cases hnn : n = n'
  · subst hnn
    have d1 : ((n : Int) != (n : Int)) = false := by simp
    go_enter Try.func13, Try.ntmps13
    go_wp2
    go_loopw [5] (SameRelL l m w) (fun i _ => n - (intOf i).toNat)
    case atStart => exact ⟨0, rfl, by omega, by simp, Below.refl _ _⟩
    case round =>
      obtain ⟨k, rfl, hk, he, hbr⟩ := hrel
      have HE := Lib.hid he
      clear he
      have hk' : k ≤ n := by have := HN.out; omega
      by_cases hlt : k < n
      · have hkl : k < l.length := by have := HN.out; omega
        have hkm : k < m.length := by have := HN'.out; omega
        obtain ⟨ad, e1, _, hcell⟩ := (HLv.out.below hbr).at hkl
        obtain ⟨ad', e2, _, hcell'⟩ := (HMv.out.below hbr).at hkm
        subst e1 e2
        obtain ⟨x, hx⟩ : ∃ x : Bool, x = l[k] := ⟨_, rfl⟩
        obtain ⟨y, hy⟩ : ∃ y : Bool, y = m[k] := ⟨_, rfl⟩
        rw [← hx] at hcell
        rw [← hy] at hcell'
        have HX := Lib.hid hx
        have HY := Lib.hid hy
        clear hx hy
        have hlti : (k : Int) < (n : Int) := by omega
        by_cases hxy : x = y
        · subst hxy
          have d2 : (x != x) = false := by simp
          go_wp2
          go_quiet (fail)
          go_wp2
          go_roundw
          case rel =>
            refine ⟨k + 1, by go_num, by omega, ?_, below_drewN hbr _⟩
            rw [List.take_succ_eq_append_getElem hkl, List.take_succ_eq_append_getElem hkm, HE.out, ← HX.out, ← HY.out]
          case measure => simp [intOf]; omega
        · have hne : (l == m) = false := by
            rw [beq_eq_false_iff_ne]
            intro h
            subst h
            exact hxy (by rw [HX.out, HY.out])
          have HNE := Lib.hid hne
          obtain rfl : y = !x := by cases x <;> cases y <;> simp_all
          clear hne hxy
          cases x <;> simp only [Bool.not_true, Bool.not_false] at hcell'
          all_goals
            go_wp2
            go_quiet (fail)
            go_wp2
            go_ret
            exact ⟨ret_bool HNE.out.symm, below_drewN hbr _⟩
      · obtain rfl : k = n := by omega
        have heq : (l == m) = true := by
          rw [beq_iff_eq]
          have h1 := HE.out
          rw [List.take_of_length_le (by have := HN.out; omega), List.take_of_length_le (by have := HN'.out; omega)] at h1
          exact h1
        have HQ := Lib.hid heq
        clear heq
        go_wp2
        go_ret
        exact ⟨ret_bool HQ.out.symm, hbr⟩
  · have d1 : ((n : Int) != (n' : Int)) = true := by simpa using (fun h => hnn (by omega))
    have hne : (l == m) = false := by
      rw [beq_eq_false_iff_ne]
      intro h
      subst h
      exact hnn (by rw [HN.out, HN'.out])
    have HQ := Lib.hid hne
    clear hne
    go_enter Try.func13, Try.ntmps13
    go_wp2
    go_ret
    exact ⟨ret_bool HQ.out.symm, Below.refl _ _⟩

def CountRelL (l : List Bool) (w : World) (c i : Value) (wr : World) : Prop := ∃ k : Nat, k ≤ l.length ∧ i = .int .i64 (k : Int) ∧ c = .int .i64 (qcount (l.take k) : Int) ∧ wr = w
theorem rcountL_any (l : List Bool) (v : Value) (w : World) (hl : IsV Value.bool l v w) (hb : l.length ≤ 1000000) :
    Calls Try.prog 30 #[v] w fun e w' => e = .returned (.int .i64 (qcount l : Int)) ∧ w = w' := by
  have HLv := Lib.hid hl
  obtain ⟨A, c, rfl, _, _, _, _⟩ := hl
  obtain ⟨n, hn⟩ : ∃ n, n = l.length := ⟨_, rfl⟩
  rw [← hn] at hb HLv ⊢
  have HN := Lib.hid hn
  clear hn
  go_enter Try.func30, Try.ntmps30
  go_wp2
  go_loopw [3, 4] (CountRelL l w) (fun _ i _ => n - (intOf i).toNat)
  case atStart => exact ⟨0, by omega, rfl, by simp [qcount], rfl⟩
  case round =>
    obtain ⟨k, hk, rfl, rfl, rfl⟩ := hrel
    have hk' : k ≤ n := by have := HN.out; omega
    obtain ⟨C, hC⟩ : ∃ C, C = qcount (l.take k) := ⟨_, rfl⟩
    rw [← hC]
    have hC6 : C ≤ 1000000 := by have := qcount_le (l.take k); rw [List.length_take] at this; omega
    have HC := Lib.hid hC
    clear hC
    by_cases hlt : k < n
    · have hkl : k < l.length := by have := HN.out; omega
      obtain ⟨ad, e1, _, hcell⟩ := HLv.out.at hkl
      subst e1
      have hs := qcount_snoc l hkl
      rw [← HC.out] at hs
      have HS := Lib.hid hs
      clear hs
      cases hx : l[k] with
      | true =>
        rw [hx] at hcell HS
        clear hx
        go_wp2
        go_roundw
        case rel => exact ⟨k + 1, by omega, by go_num, by rw [HS.out]; go_num, rfl⟩
        case measure => simp [intOf]; omega
      | false =>
        rw [hx] at hcell HS
        clear hx
        go_wp2
        go_roundw
        case rel => exact ⟨k + 1, by omega, by go_num, by rw [HS.out]; go_num, rfl⟩
        case measure => simp [intOf]; omega
    · obtain rfl : k = n := by omega
      go_wp2
      go_ret
      exact ⟨ret_int (by rw [HC.out, List.take_of_length_le (by have := HN.out; omega)]), rfl⟩

def RQPutRel (l : List Bool) (g m : Nat) (w : World) (i : Value) (wr : World) : Prop :=
  ∃ (k : Nat) (out : List UInt8), i = .int .i64 (k : Int) ∧ k ≤ l.length ∧ out.length = m ∧ Row wr g 5 (out.map bv) ∧ bval out = pval 1 (qn (l.take k)) * 2 ^ (8 * m - k) ∧ Below w.heap.size w wr
theorem pval_step (l : List Bool) {k : Nat} (h : k < l.length) : pval 1 (qn (l.take (k + 1))) = pval 1 (qn (l.take k)) * 2 ^ 1 + l[k].toNat := by rw [qn_snoc l h, pval_snoc]
set_option maxHeartbeats 2000000 in
set_option maxRecDepth 100000 in
theorem rqput_any (l : List Bool) (v : Value) (w : World) (hl : IsV Value.bool l v w) (hb : l.length ≤ 1000000) :
    Calls Try.prog 26 #[v] w (RetE w (qputE l)) := by
  have HLv := Lib.hid hl
  obtain ⟨A, c, rfl, _, hnc, hcm, hlies⟩ := hl
  obtain ⟨n, hn⟩ : ∃ n, n = l.length := ⟨_, rfl⟩
  have hci : (c : Int) ≤ 9223372036854775807 := by unfold maxLen at hcm; omega
  rw [← hn] at hb hnc HLv ⊢
  have HN := Lib.hid hn
  clear hlies hcm
  by_cases hbig : n ≤ 4096
  · have hE : Hid (qputE l = (yput (qpack l), 0)) := Lib.hid (by unfold qputE; rw [if_pos (by omega)])
    have hbi : ¬ (4096 : Int) < (n : Int) := by omega
    obtain ⟨m, hm⟩ : ∃ m, m = (n + 7) / 8 := ⟨_, rfl⟩
    have hmi : ((n : Int) + 7) / 8 = (m : Int) := by omega
    have hm8 : n ≤ 8 * m := by omega
    have hm5 : m ≤ 600 := by omega
    have HM := Lib.hid hm
    clear hn hm
    go_enter Try.func26, Try.ntmps26
    go_wp2_with (refine wpList_make elemB rfl _ _ rfl _ _ _ _ m w w.heap.size rfl rfl ?_ ?_ (by omega) (by omega) (Below.refl _ _) (Nat.le_refl _) ?_)
    intro w1 hr1 hb1
    have hr2 : Row w1 w.heap.size 5 ((List.replicate m (0 : UInt8)).map bv) := by simpa using hr1
    have hst : RQPutRel l w.heap.size m w (.int .i64 0) w1 := ⟨0, List.replicate m 0, rfl, by omega, by simp, hr2, by rw [bval_zeros]; simp [pval, qn], hb1⟩
    clear hr1 hr2 hb1
    go_wp2
    go_loopw [5] (RQPutRel l w.heap.size m w) (fun i _ => n - (intOf i).toNat)
    case atStart => exact hst
    case round =>
      obtain ⟨T, o, rfl, hk, hlen, hr, hval, hbw⟩ := hrel
      have HVal := Lib.hid hval
      have HLe := Lib.hid hlen
      clear hst hval hlen
      have hk' : T ≤ n := by have := HN.out; omega
      by_cases hlt : T < n
      · have hkl : T < l.length := by have := HN.out; omega
        obtain ⟨ad, e1, _, hcell⟩ := (HLv.out.below hbw).at hkl
        subst e1
        have HP := Lib.hid (pval_step l hkl)
        have hT8 : T + 1 ≤ 8 * m := by omega
        cases hx : l[T] with
        | false =>
          rw [hx] at hcell HP
          clear hx
          go_wp2
          go_roundw
          case rel => exact ⟨T + 1, o, by go_num, by omega, HLe.out, hr, by rw [HVal.out, HP.out]; exact step_zero _ m T hT8, hbw⟩
          case measure => simp [intOf]; omega
        | true =>
          rw [hx] at hcell HP
          clear hx
          go_wp2
          refine wp_region_tail 13 (by kernel_rfl) (by kernel_rfl) ?_
          have hr2 : Row wr.drew w.heap.size 5 (o.map bv) := hr
          have hb2 : Below w.heap.size w wr.drew := hbw.drew
          clear hr hbw hcell
          generalize wr.drew = w2 at *
          obtain ⟨q, hq⟩ : ∃ q, q = T / 8 := ⟨_, rfl⟩
          obtain ⟨e, he⟩ : ∃ e, e = T % 8 := ⟨_, rfl⟩
          obtain ⟨r, hr'⟩ : ∃ r, r = 8 - T % 8 := ⟨_, rfl⟩
          obtain ⟨d, hd⟩ : ∃ d, d = r - 1 := ⟨_, rfl⟩
          obtain ⟨hqo, hl1, hl2, hl3, hl4⟩ := laid_at (n := 1) (piece := 1) hq hr' hd HLe.out (by omega) (by omega) hT8 (by omega) HVal.out
          have hqi : (T : Int) / 8 = (q : Int) := by omega
          have hei : (T : Int) % 8 = (e : Int) := by omega
          have hwq : IntKind.i64.wrap (q : Int) = (q : Int) := by rw [IntKind.wrap_i64]; omega
          have htm : (T : Int).tmod 8 = (e : Int) := by rw [Int.tmod_eq_emod_of_nonneg (by omega)]; exact hei
          have hwe : IntKind.i64.wrap (e : Int) = (e : Int) := by rw [IntKind.wrap_i64]; omega
          have hqm : (q : Int) < (m : Int) := by omega
          have he8 : e < 8 := by omega
          obtain ⟨D, hD⟩ : ∃ D, D = 2 ^ d := ⟨_, rfl⟩
          have hsr : (128 : Int) / 2 ^ e = (D : Int) := by rw [shr128 e he8, hD, show 7 - e = d by omega]
          rw [Nat.one_mul, ← hD] at hl2 hl3 hl4
          obtain ⟨B, hB⟩ : ∃ B, B = o[q].toNat := ⟨_, rfl⟩
          have hcB : w2.cell? ⟨w.heap.size, q, none⟩ = some (.int .u8 (B : Int)) := by
            rw [hr2.cell, List.getElem?_map, List.getElem?_eq_getElem hqo, hB]; rfl
          have hfB := hr2.free q
          rw [← hB] at hl2 hl4
          obtain ⟨C, hC⟩ : ∃ C, C = B + D := ⟨_, rfl⟩
          have hadd : IntKind.u8.wrap ((B : Int) + (D : Int)) = (C : Int) := by rw [IntKind.wrap_u8]; omega
          have hadd2 : ((B : Int) + (D : Int)) % 256 = (C : Int) := by omega
          rw [← hC] at hl2 hl4
          have HL4 := Lib.hid hl4
          have HL2 := Lib.hid hl2
          clear hq he hr' hd hD hB hC hl1 hl2 hl3 hl4
          simp only [List.take_succ_cons, List.take_zero, List.drop_succ_cons, List.drop_zero]
          repeat still_step
          refine wpStill_nil ?_
          go_wp2
          go_roundw
          case rel =>
            refine ⟨T + 1, o.set q (UInt8.ofNat C), by go_num, by omega, by rw [List.length_set]; exact HLe.out, row_set hr2 q C HL2.out, ?_, hb2.setCell (Nat.le_refl _) _⟩
            rw [HL4.out, HP.out]; rfl
          case measure => simp [intOf]; omega
      · obtain rfl : T = n := by omega
        have hob : o = qpack l := by
          have hv := HVal.out
          rw [List.take_of_length_le (by have := HN.out; omega)] at hv
          unfold qpack bpack
          rw [qn_len, ← HN.out, show bsize T 1 = m by rw [HM.out, bsize, Nat.mul_one], Nat.one_mul]
          exact eq_be HLe.out hv
        have hI := isB_row hr HLe.out (by omega)
        rw [hob] at hI
        have hR := rput5_any (qpack l) _ wr hI (by rw [qpack_len]; have := HN.out; omega)
        have hyE : yputE (qpack l) = (yput (qpack l), 0) := by unfold yputE; rw [if_pos (by rw [qpack_len]; have := HN.out; omega)]
        rw [hyE] at hR
        have HR := Lib.hid hR
        have HB := Lib.hid hbw
        clear hob hI hR hyE hr hbw
        go_wp2_with fail
        refine HR.out.mono ?_
        rintro e w3 ⟨v3, rfl, hv3, hb3⟩
        have HV3 := Lib.hid hv3
        have HB3 := Lib.hid (below_then HB.out hb3)
        clear hv3 hb3
        go_wp2
        go_ret2
        rw [hE.out]
        exact ⟨_, rfl, HV3.out, HB3.out⟩
  · have hE : Hid (qputE l = ([], 3)) := Lib.hid (by unfold qputE; rw [if_neg (by omega)])
    have hbi : (4096 : Int) < (n : Int) := by omega
    clear hn hnc
    go_enter Try.func26, Try.ntmps26
    go_wp2
    go_ret2
    rw [hE.out]
    exact RetE.nil _ (Below.refl _ _)
end Go.Proofs.Ytffglnccpbbclaa
