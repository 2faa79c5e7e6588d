
/- Contracts of layer 13's reference: Put, Take; and of layer 12's SameRow. -/

import Derived.Test.YtffglnccpbbclaaNRef

namespace Go.Proofs.Ytffglnccpbbclaa

open Go.RowKit

def SameRelW (w : World) (i : Value) (n : Nat) (wr : World) : Prop := ∃ k : Nat, k ≤ n ∧ i = .int .i64 (k : Int) ∧ Below w.heap.size w wr
set_option maxHeartbeats 2000000 in
set_option maxRecDepth 100000 in
theorem samerow12_any (l : List CV) (u v : Value) (w : World) (hu : IsR kcells l u w) (hv : IsR kcells l v w) (hb : l.length ≤ 1000000) :
    Calls Try.prog 14 #[u, v] w fun e w' => e = .returned (.bool true) ∧ Below w.heap.size w w' := by
  obtain ⟨A, n, c, rfl⟩ := hu.shape
  obtain ⟨B, m, d, rfl⟩ := hv.shape
  have hnm : n = m := by rw [← hu.parts.1, hv.parts.1]
  subst hnm
  have HN := Lib.hid hu.parts.1
  have HU := Lib.hid hu
  have HV := Lib.hid hv
  have hn6 : n ≤ 1000000 := by have := HN.out; omega
  have d0 : ((n : Int) != (n : Int)) = false := by simp
  clear hu hv hb
  go_enter Try.func14, Try.ntmps14
  go_wp2
  go_loopw [5] (fun i wr => SameRelW w i n wr) (fun i _ => n - (intOf i).toNat)
  case atStart => exact ⟨0, Nat.zero_le _, rfl, Below.refl _ _⟩
  case round =>
    obtain ⟨k, hkn, rfl, hbw⟩ := hrel
    by_cases hlt : k < n
    · have hkl : k < l.length := by have := HN.out; omega
      have hlti : (k : Int) < (n : Int) := by omega
      obtain ⟨ad, rfl, had, hcell⟩ := (HU.out.below hbw).at (m := 3) (fun _ => rfl) (by omega) hkl
      obtain ⟨bd, rfl, hbd, hcell2⟩ := (HV.out.below hbw).at (m := 3) (fun _ => rfl) (by omega) hkl
      obtain ⟨x, hx⟩ : ∃ x, x = l[k] := ⟨_, rfl⟩
      rw [← hx] at hcell hcell2
      obtain ⟨k0, k1, k2⟩ := cells3 hcell
      obtain ⟨j0, j1, j2⟩ := cells3 hcell2
      clear hx hcell hcell2 had hbd
      obtain ⟨xb, xn, xs⟩ := x
      dsimp only at k0 k1 k2 j0 j1 j2
      go_wp2
      go_quiet (fail)
      go_wp2
      go_roundw
      case rel => exact ⟨k + 1, by omega, by go_num, below_drewN hbw _⟩
      case measure => simp [intOf]; omega
    · obtain rfl : k = n := by omega
      have hlti : ¬ (k : Int) < (k : Int) := by omega
      go_wp2
      go_ret
      exact ⟨rfl, hbw⟩
/-- Bytes, values and an error. -/
def RetBR (w : World) (p : List UInt8 × List CV × Int) (e : Ending) (w' : World) : Prop := ∃ u v, e = .returned (.tuple #[u, v, .int .i64 p.2.2]) ∧ IsB p.1 u w' ∧ IsR kcells p.2.1 v w' ∧ Below w.heap.size w w'
theorem RetBR.nil {w w' : World} (n : Int) (hb : Below w.heap.size w w') : RetBR w ([], [], n) (.returned (.tuple #[.slice none 0 0, .slice none 0 0, .int .i64 n])) w' := ⟨_, _, rfl, isB_nil _, isR_nil _ _, hb⟩
set_option maxHeartbeats 2000000 in
set_option maxRecDepth 100000 in
theorem rnput13_any (l : List CV) (v : Value) (w : World) (hv : IsR kcells l v w) (hb : l.length ≤ 1000000) :
    Calls Try.prog 16 #[v] w (RetBR w (nputE l)) := by
  have HSP := Lib.hid (rsplit13_any l v w hv hb)
  obtain ⟨A, n, c, rfl⟩ := hv.shape
  have HN := Lib.hid hv.parts.1
  have hn6 : n ≤ 1000000 := by have := HN.out; omega
  clear hv
  by_cases h4 : 4096 < n
  · have hE := Lib.hid (nputE_big (l := l) (by have := HN.out; omega))
    have d1 : decide ((4096 : Int) < (n : Int)) = true := decide_eq_true (by omega)
    clear hb
    go_enter Try.func16, Try.ntmps16
    go_wp2
    go_ret3
    rw [hE.out]
    exact RetBR.nil _ (Below.refl _ _)
  · have d1 : decide ((4096 : Int) < (n : Int)) = false := decide_eq_false (by omega)
    have HQP := Lib.hid (fun (u : Value) (X : World) (h : IsV Value.bool (npresent l) u X) => rqput_any (npresent l) u X h (by rw [npresent_len]; omega))
    rw [nputE_q (by have := HN.out; omega)] at HQP
    by_cases ha : (nsome l).length = n
    · have hE := Lib.hid (nputE_all (l := l) (by have := HN.out; omega) (by have := HN.out; omega))
      clear hb HQP
      go_enter Try.func16, Try.ntmps16
      go_wp2_with fail
      refine HSP.out.mono ?_
      rintro e w1 ⟨u1, v1, rfl, hu1, hv1, hb1⟩
      obtain ⟨A1, m, c1, rfl⟩ := hv1.shape
      obtain rfl : m = n := by rw [← hv1.parts.1, ha]
      have HV1 := Lib.hid hv1
      have HB1 := Lib.hid hb1
      have d2 : ((m : Int) == (m : Int)) = true := by simp
      clear hv1 hu1 hb1 ha
      go_wp2
      go_ret3
      rw [hE.out]
      exact ⟨_, _, rfl, isB_nil _, HV1.out, HB1.out⟩
    · have hE := Lib.hid (nputE_some (l := l) (by have := HN.out; omega) (by have := HN.out; omega))
      clear hb
      go_enter Try.func16, Try.ntmps16
      go_wp2_with fail
      refine HSP.out.mono ?_
      rintro e w1 ⟨u1, v1, rfl, hu1, hv1, hb1⟩
      obtain ⟨A1, m, c1, rfl⟩ := hv1.shape
      have hmn : m ≠ n := by rw [← hv1.parts.1]; exact ha
      have HV1 := Lib.hid hv1
      have HB1 := Lib.hid hb1
      have HQ1 := Lib.hid (HQP.out _ _ hu1)
      have d2 : ((m : Int) == (n : Int)) = false := by rw [beq_eq_false_iff_ne]; omega
      clear hv1 hu1 hb1 ha hmn
      go_wp2_with fail
      refine HQ1.out.mono ?_
      rintro e w2 ⟨b2, rfl, hb2, hbb⟩
      have HI2 := Lib.hid hb2
      have HV2 := Lib.hid (HV1.out.below hbb)
      have HB2 := Lib.hid (below_then HB1.out hbb)
      clear hb2 hbb
      go_wp2
      go_ret3
      rw [hE.out]
      exact ⟨_, _, rfl, HI2.out, HV2.out, HB2.out⟩
/-- Truths and an error. -/
def RetVE (w : World) (p : List Bool × Int) (e : Ending) (w' : World) : Prop := ∃ u, e = .returned (.tuple #[u, .int .i64 p.2]) ∧ IsV Value.bool p.1 u w' ∧ Below w.heap.size w w'
theorem RetVE.nil {w w' : World} (n : Int) (hb : Below w.heap.size w w') : RetVE w ([], n) (.returned (.tuple #[.slice none 0 0, .int .i64 n])) w' := ⟨_, rfl, isV_nil _ _, hb⟩
theorem ntakeE_arg {b : List UInt8} {many : Int} (h : many < 0 ∨ 4096 < many) : ntakeE b many = ([], 1) := by unfold ntakeE; rw [if_pos h]
theorem ntakeE_nil {b : List UInt8} {M : Nat} (h : M ≤ 4096) (hb : b.length = 0) : ntakeE b (M : Int) = (List.replicate M true, 0) := by unfold ntakeE; rw [if_neg (by omega), if_pos hb, Int.toNat_natCast]
theorem ntakeE_bad {b : List UInt8} {M : Nat} (h : M ≤ 4096) (hb : b.length ≠ 0) {l : List Bool} {r : List UInt8} {x : Int} (hq : qtakeE b M = (l, r, x)) (h2 : x ≠ 0 ∨ 0 < r.length ∨ qcount l = M) : ntakeE b (M : Int) = ([], 2) := by
  unfold ntakeE
  rw [if_neg (by omega), if_neg hb, hq]
  dsimp only
  rw [if_pos (by omega)]
theorem ntakeE_ok {b : List UInt8} {M : Nat} (h : M ≤ 4096) (hb : b.length ≠ 0) {l : List Bool} (hq : qtakeE b M = (l, [], 0)) (h2 : qcount l ≠ M) : ntakeE b (M : Int) = (l, 0) := by
  unfold ntakeE
  rw [if_neg (by omega), if_neg hb, hq]
  dsimp only
  rw [if_neg (by simp; omega)]
def AllRel (M : Nat) (w : World) (v i : Value) (wr : World) : Prop :=
  ∃ (k : Nat) (xs : List Bool), k ≤ M ∧ i = .int .i64 (k : Int) ∧ xs = List.replicate k true ∧ wr.ownsRow w.heap.size 4 1 v k (xs.map Value.bool) ∧ Below w.heap.size w wr
theorem qtakeE_bd (b : List UInt8) (many : Int) : (qtakeE b many).1.length ≤ 1000000 := by
  unfold qtakeE
  split
  · simp
  · rename_i h
    unfold qtakeM
    split
    · simp
    · split
      · rw [qbits_len]; omega
      · simp
set_option maxHeartbeats 2000000 in
set_option maxRecDepth 100000 in
theorem rntake13_any (l : List UInt8) (v : Value) (many : Int) (w : World) (hv : IsB l v w) (hb : l.length ≤ 1000000) :
    Calls Try.prog 18 #[v, .int .i64 many] w (RetVE w (ntakeE l many)) := by
  have HQ := Lib.hid (rqtake_any l v many w hv hb)
  obtain ⟨A, c, rfl, hA, hnc, hcm, hl⟩ := hv
  obtain ⟨n, hn⟩ : ∃ n, n = l.length := ⟨_, rfl⟩
  rw [← hn] at hb HQ ⊢
  have HN := Lib.hid hn
  clear hl hA hnc hcm hn
  by_cases h0 : many < 0
  · have hE := Lib.hid (ntakeE_arg (b := l) (many := many) (.inl h0))
    have d1 : decide (many < 0) = true := decide_eq_true h0
    go_enter Try.func18, Try.ntmps18
    go_wp2
    go_ret2
    rw [hE.out]
    exact RetVE.nil _ (Below.refl _ _)
  · have d1 : decide (many < 0) = false := decide_eq_false h0
    by_cases h4 : 4096 < many
    · have hE := Lib.hid (ntakeE_arg (b := l) (many := many) (.inr h4))
      have d2 : decide ((4096 : Int) < many) = true := decide_eq_true h4
      go_enter Try.func18, Try.ntmps18
      go_wp2
      go_ret2
      rw [hE.out]
      exact RetVE.nil _ (Below.refl _ _)
    · obtain ⟨M, rfl⟩ := Int.eq_ofNat_of_zero_le (show 0 ≤ many by omega)
      have d2 : decide ((4096 : Int) < (M : Int)) = false := decide_eq_false h4
      have hM : M ≤ 4096 := by omega
      by_cases hz : n = 0
      · subst hz
        have hE := Lib.hid (ntakeE_nil (b := l) hM HN.out.symm)
        have hst : AllRel M w (.slice (some ⟨w.heap.size, 0, none⟩) 0 0) (.int .i64 0) (w.alloc (.cells #[] 4)) := ⟨0, [], Nat.zero_le _, rfl, rfl, ownW_made w 4 1, (Below.refl _ _).alloc (Nat.le_refl _) _⟩
        clear h0 h4 HQ
        go_enter Try.func18, Try.ntmps18
        go_wp2
        go_loopw [6, 7] (AllRel M w) (fun _ i _ => M - (intOf i).toNat)
        case atStart => exact hst
        case round =>
          obtain ⟨k, xs, hk, rfl, hxs, hown, hbw⟩ := hrel
          clear hst
          have hz := hbw.size
          have HXS := Lib.hid hxs
          clear hxs
          by_cases hlt : k < M
          · have hlti : (k : Int) < (M : Int) := by omega
            go_wp2_with (at_builtin; refine wpList_push elemL rfl _ _ rfl w.heap.size _ _ _ (.bool true) wr w rfl rfl rfl rfl hown hbw hz (by omega) (by omega) ?_)
            intro u5 w5 hown5 hb5 _ _
            have HREL := Lib.hid (show AllRel M w u5 (.int .i64 ((k + 1 : Nat) : Int)) w5 from ⟨k + 1, xs ++ [true], hlt, rfl, by rw [HXS.out, List.replicate_succ'], by rw [List.map_append, List.map_singleton]; exact hown5, hb5⟩)
            clear hown5 hown hbw hb5
            go_wp2
            go_roundw
            case rel => exact HREL.out
            case measure => simp [intOf]; omega
          · obtain rfl : k = M := by omega
            have hlti : ¬ (k : Int) < (k : Int) := by omega
            have HI := Lib.hid (isV_own (f := Value.bool) hown)
            clear hown
            go_wp2
            go_ret2
            rw [hE.out]
            exact ⟨_, rfl, by have h := HI.out; rw [HXS.out] at h; exact h, hbw⟩
      · have d3 : ((n : Int) == 0) = false := by simp; omega
        have hl0 : l.length ≠ 0 := by rw [← HN.out]; exact hz
        have hbd := qtakeE_bd l (M : Int)
        obtain ⟨t, r, x, hq⟩ : ∃ t r x, qtakeE l (M : Int) = (t, r, x) := ⟨_, _, _, rfl⟩
        rw [hq] at HQ hbd
        dsimp only at hbd
        have HQE := Lib.hid hq
        have HL0 := Lib.hid hl0
        clear hq hl0 h0 h4 hz
        go_enter Try.func18, Try.ntmps18
        go_wp2_with fail
        refine HQ.out.mono ?_
        rintro e w1 ⟨tv, rv, rfl, ht, hr, hb1⟩
        obtain ⟨B, rn, rc, rfl⟩ := IsV.shape (f := bv) hr
        have HRN := Lib.hid (IsV.parts (f := bv) (show IsV bv r _ _ from hr)).1
        have HT := Lib.hid ht
        have HB1 := Lib.hid hb1
        clear hr ht hb1
        by_cases hx : x = 0
        · subst hx
          by_cases hr0 : 0 < rn
          · have hE := Lib.hid (ntakeE_bad hM HL0.out HQE.out (.inr (.inl (by rw [HRN.out]; exact hr0))))
            have d5 : decide ((0 : Int) < (rn : Int)) = true := decide_eq_true (by omega)
            go_wp2
            go_ret2
            rw [hE.out]
            exact RetVE.nil _ HB1.out
          · obtain rfl : rn = 0 := by omega
            have HC := Lib.hid (rcountL_any t _ w1 HT.out hbd)
            by_cases hc : qcount t = M
            · have hE := Lib.hid (ntakeE_bad hM HL0.out HQE.out (.inr (.inr hc)))
              have d6 : ((qcount t : Int) == (M : Int)) = true := by rw [hc]; simp
              clear hc
              go_wp2_with (go_at_call 30; refine HC.out.mono ?_; rintro e w' ⟨rfl, rfl⟩)
              go_ret2
              rw [hE.out]
              exact RetVE.nil _ HB1.out
            · have hE := Lib.hid (ntakeE_ok hM HL0.out (l := t) (by rw [HQE.out, List.eq_nil_of_length_eq_zero HRN.out]) hc)
              have d6 : ((qcount t : Int) == (M : Int)) = false := by rw [beq_eq_false_iff_ne]; omega
              clear hc
              go_wp2_with (go_at_call 30; refine HC.out.mono ?_; rintro e w' ⟨rfl, rfl⟩)
              go_ret2
              rw [hE.out]
              exact ⟨_, rfl, HT.out, HB1.out⟩
        · have hE := Lib.hid (ntakeE_bad hM HL0.out HQE.out (.inl hx))
          have d4 : (x != 0) = true := by simpa using hx
          go_wp2
          go_ret2
          rw [hE.out]
          exact RetVE.nil _ HB1.out
end Go.Proofs.Ytffglnccpbbclaa
