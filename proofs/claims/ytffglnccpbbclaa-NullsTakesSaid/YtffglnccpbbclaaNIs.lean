
/- nulls' own contracts: Put, Take. -/

import Derived.Test.YtffglnccpbbclaaNJoin

import Derived.Test.YtffglnccpbbclaaNRep

namespace Go.Proofs.Ytffglnccpbbclaa

open Go.RowKit

set_option maxHeartbeats 2000000 in
set_option maxRecDepth 100000 in
theorem nput_any (l : List CV) (v : Value) (w : World) (hv : IsR kcells l v w) (hb : l.length ≤ 1000000) : Calls Try.prog 15 #[v] w (RetBR w (nputE l)) := by
  obtain ⟨A, n, c, rfl⟩ := hv.shape
  have hn := hv.parts.1
  have hn6 : n ≤ 1000000 := by omega
  have HN := Lib.hid hn
  have HS := Lib.hid (nsplit_any l (.slice A n c) w hv hb)
  clear hv hb hn
  by_cases h4 : 4096 < n
  · have h4i : (4096 : Int) < (n : Int) := by omega
    have HE := Lib.hid (nputE_big (l := l) (by rw [HN.out]; exact h4))
    go_enter Try.func15, Try.ntmps15
    go_wp2
    go_ret3
    rw [HE.out]
    exact RetBR.nil _ (Below.refl _ _)
  · have h4i : ¬ (4096 : Int) < (n : Int) := by omega
    have HL : Hid (l.length ≤ 4096) := Lib.hid (by rw [HN.out]; omega)
    by_cases ha : (nsome l).length = l.length
    · have HE := Lib.hid (nputE_all HL.out ha)
      have HQ := Lib.hid (show (qcount (npresent l) == (npresent l).length) = true by rw [qcount_present, npresent_len, beq_iff_eq]; exact ha)
      clear ha
      go_enter Try.func15, Try.ntmps15
      go_wp2_with fail
      refine HS.out.mono ?_
      rintro e w1 ⟨u1, v1, rfl, hu1, hv1, hb1⟩
      have HU1 := Lib.hid hu1
      have HV1 := Lib.hid hv1
      have HB1 := Lib.hid hb1
      clear hu1 hv1 hb1
      go_wp2_with fail
      refine (nwhole_any _ u1 true w1 HU1.out (by rw [npresent_len]; have := HL.out; omega) HQ.out).mono ?_
      rintro e w' ⟨rfl, rfl⟩
      go_wp2
      go_ret3
      rw [HE.out]
      exact ⟨_, _, rfl, isB_nil _, HV1.out, HB1.out⟩
    · have HE := Lib.hid (nputE_some HL.out ha)
      have HP := Lib.hid (nputE_q HL.out)
      have HQ := Lib.hid (show (qcount (npresent l) == (npresent l).length) = false by rw [qcount_present, npresent_len, beq_eq_false_iff_ne]; exact ha)
      clear ha
      go_enter Try.func15, Try.ntmps15
      go_wp2_with fail
      refine HS.out.mono ?_
      rintro e w1 ⟨u1, v1, rfl, hu1, hv1, hb1⟩
      have HU1 := Lib.hid hu1
      have HV1 := Lib.hid hv1
      have HB1 := Lib.hid hb1
      clear hu1 hv1 hb1
      go_wp2_with fail
      refine (nwhole_any _ u1 false w1 HU1.out (by rw [npresent_len]; have := HL.out; omega) HQ.out).mono ?_
      rintro e w' ⟨rfl, rfl⟩
      have HB := Lib.hid (qput_any (npresent l) u1 w1 HU1.out (by rw [npresent_len]; have := HL.out; omega))
      rw [HP.out] at HB
      go_wp2_with fail
      refine HB.out.mono ?_
      rintro e w2 ⟨u2, rfl, hu2, hb2⟩
      have HU2 := Lib.hid hu2
      have HV2 := Lib.hid (HV1.out.below hb2)
      have HB2 := Lib.hid (below_then HB1.out hb2)
      clear hu2 hb2
      go_wp2
      go_ret3
      rw [HE.out]
      exact ⟨_, _, rfl, HU2.out, HV2.out, HB2.out⟩
theorem qtakeE_full {b : List UInt8} {M : Nat} (h : M ≤ 4096) {t : List Bool} {r : List UInt8} (hq : qtakeE b (M : Int) = (t, r, 0)) : t.length = M := by
  rw [qtakeE_in h] at hq
  unfold qtakeM at hq
  split at hq
  · injection hq with _ hq
    injection hq with _ hq
    exact absurd hq (by decide)
  · split at hq
    · injection hq with hq _
      rw [← hq, qbits_len]
    · injection hq with _ hq
      injection hq with _ hq
      exact absurd hq (by decide)
set_option maxHeartbeats 4000000 in
set_option maxRecDepth 100000 in
theorem ntake_any (l : List UInt8) (v : Value) (many : Int) (w : World) (hv : IsB l v w) (hb : l.length ≤ 1000000) : Calls Try.prog 17 #[v, .int .i64 many] w (RetVE w (ntakeE l many)) := by
  by_cases h0 : many < 0
  · have hE := Lib.hid (ntakeE_arg (b := l) (Or.inl h0))
    have d1 : decide (many < 0) = true := decide_eq_true h0
    go_enter Try.func17, Try.ntmps17
    go_wp2
    go_ret2
    rw [hE.out]
    exact RetVE.nil _ (Below.refl _ _)
  · have d1 : decide (many < 0) = false := decide_eq_false h0
    by_cases h4 : 4096 < many
    · have hE := Lib.hid (ntakeE_arg (b := l) (Or.inr h4))
      have d2 : decide ((4096 : Int) < many) = true := decide_eq_true h4
      go_enter Try.func17, Try.ntmps17
      go_wp2
      go_ret2
      rw [hE.out]
      exact RetVE.nil _ (Below.refl _ _)
    · obtain ⟨M, rfl⟩ := Int.eq_ofNat_of_zero_le (show 0 ≤ many by omega)
      have hM : M ≤ 4096 := by omega
      have d2 : decide ((4096 : Int) < (M : Int)) = false := decide_eq_false (by omega)
      obtain ⟨A, n, c, rfl⟩ := IsV.shape (f := bv) hv
      have hn := (IsV.parts (f := bv) (show IsV bv l _ _ from hv)).1
      by_cases hz : n = 0
      · subst hz
        have hE := Lib.hid (ntakeE_nil hM hn)
        have hnew : Row (w.alloc (.cells #[.bool true] 4)) w.heap.size 4 (nbc true) := heap_alloc_new w _
        have HB := Lib.hid (show Below w.heap.size w (w.alloc (.cells #[.bool true] 4)) from (Below.refl _ _).alloc (Nat.le_refl _) _)
        by_cases hM0 : M = 0
        · subst hM0
          have HR := Lib.hid (nrepeat_none true w.heap.size 1 _ hnew)
          clear hv hb hn hnew h0 h4
          go_enter Try.func17, Try.ntmps17
          go_wp2_with fail
          refine HR.out.mono ?_
          rintro e w2 ⟨g, rfl, hg⟩
          have HB2 := Lib.hid (below_then HB.out hg)
          clear hg
          go_wp2
          go_ret2
          rw [hE.out]
          exact ⟨_, rfl, ⟨_, 0, rfl, by simp, by simp, by unfold maxLen; omega, Lies.nil⟩, HB2.out⟩
        · have HR := Lib.hid (nrepeat_any true w.heap.size 1 M _ hnew (by omega) (by omega))
          clear hv hb hn hnew h0 h4
          go_enter Try.func17, Try.ntmps17
          go_wp2_with fail
          refine HR.out.mono ?_
          rintro e w2 ⟨g, rfl, _, hr, hg⟩
          have HB2 := Lib.hid (below_then HB.out hg)
          have HI : Hid (IsV Value.bool (List.replicate M true) (.slice (some ⟨g, 0, none⟩) M M) w2) := Lib.hid (isV_row (t := 4) (by rw [← nbcs_map]; exact hr) (by simp) (by omega))
          clear hg hr
          go_wp2
          go_ret2
          rw [hE.out]
          exact ⟨_, rfl, HI.out, HB2.out⟩
      · have d3 : ((n : Int) == 0) = false := by simp; omega
        have hl0 : l.length ≠ 0 := by rw [hn]; exact hz
        have HQ := Lib.hid (qtake_any l (.slice A n c) (M : Int) w hv hb)
        have hbd := qtakeE_bd l (M : Int)
        obtain ⟨t, r, x, hq⟩ : ∃ t r x, qtakeE l (M : Int) = (t, r, x) := ⟨_, _, _, rfl⟩
        rw [hq] at HQ hbd
        dsimp only at hbd
        have HQE := Lib.hid hq
        have HL0 := Lib.hid hl0
        have HBD := Lib.hid hbd
        clear hq hl0 h0 h4 hz hv hb hn hbd
        go_enter Try.func17, Try.ntmps17
        go_wp2_with fail
        refine HQ.out.mono ?_
        rintro e w1 ⟨tv, rv, rfl, ht, hr, hb1⟩
        obtain ⟨B, rn, rc, rfl⟩ := IsV.shape (f := bv) hr
        have HRN := Lib.hid (IsV.parts (f := bv) (show IsV bv r _ _ from hr)).1
        have HT := Lib.hid ht
        have HB1 := Lib.hid hb1
        clear hr ht hb1
        by_cases hx : x = 0
        · subst hx
          have d4 : ((0 : Int) != 0) = false := rfl
          have HF := Lib.hid (qtakeE_full hM HQE.out)
          by_cases hr0 : rn = 0
          · subst hr0
            have d5 : (((0 : Nat) : Int) != 0) = false := rfl
            by_cases hc : qcount t = M
            · have hE := Lib.hid (ntakeE_bad hM HL0.out HQE.out (.inr (.inr hc)))
              have HQ2 := Lib.hid (show (qcount t == t.length) = true by rw [HF.out, beq_iff_eq]; exact hc)
              clear hc
              go_wp2_with fail
              refine (nwhole_any t tv true w1 HT.out HBD.out HQ2.out).mono ?_
              rintro e w' ⟨rfl, rfl⟩
              go_wp2
              go_ret2
              rw [hE.out]
              exact RetVE.nil _ HB1.out
            · have hE := Lib.hid (ntakeE_ok hM HL0.out (l := t) (by rw [HQE.out, List.eq_nil_of_length_eq_zero HRN.out]) hc)
              have HQ2 := Lib.hid (show (qcount t == t.length) = false by rw [HF.out, beq_eq_false_iff_ne]; exact hc)
              clear hc
              go_wp2_with fail
              refine (nwhole_any t tv false w1 HT.out HBD.out HQ2.out).mono ?_
              rintro e w' ⟨rfl, rfl⟩
              go_wp2
              go_ret2
              rw [hE.out]
              exact ⟨_, rfl, HT.out, HB1.out⟩
          · have hE := Lib.hid (ntakeE_bad hM HL0.out HQE.out (.inr (.inl (by rw [HRN.out]; omega))))
            have d5 : ((rn : Int) != 0) = true := by simpa using hr0
            go_wp2
            go_ret2
            rw [hE.out]
            exact RetVE.nil _ HB1.out
        · have hE := Lib.hid (ntakeE_bad hM HL0.out HQE.out (.inl hx))
          have d4 : (x != 0) = true := by simpa using hx
          go_wp2
          go_ret2
          rw [hE.out]
          exact RetVE.nil _ HB1.out
end Go.Proofs.Ytffglnccpbbclaa
