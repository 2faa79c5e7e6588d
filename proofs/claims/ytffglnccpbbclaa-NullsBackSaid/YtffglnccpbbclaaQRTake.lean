
/- The contract of layer 6's reference's Take. -/

import Derived.Test.YtffglnccpbbclaaQRef

import Derived.Test.YtffglnccpbbclaaOwnV

namespace Go.Proofs.Ytffglnccpbbclaa

open Go.RowKit

/-- Truths, bytes and an error that a call answers. -/
def RetLB (w : World) (p : List Bool × List UInt8 × Int) (e : Ending) (w' : World) : Prop :=
  ∃ u v, e = .returned (.tuple #[u, v, .int .i64 p.2.2]) ∧ IsV Value.bool p.1 u w' ∧ IsB p.2.1 v w' ∧ Below w.heap.size w w'
theorem RetLB.nil {w w' : World} (n : Int) (hb : Below w.heap.size w w') : RetLB w ([], [], n) (.returned (.tuple #[.slice none 0 0, .slice none 0 0, .int .i64 n])) w' := ⟨_, _, rfl, isV_nil _ _, isB_nil _, hb⟩
/-- The same, the truths in a row of the call's own. -/
def RetLBO (w : World) (p : List Bool × List UInt8 × Int) (e : Ending) (w' : World) : Prop :=
  ∃ u v, e = .returned (.tuple #[u, v, .int .i64 p.2.2]) ∧ OwnV Value.bool 4 w p.1 u w' ∧ IsB p.2.1 v w' ∧ Below w.heap.size w w'
theorem RetLBO.nil {w w' : World} (n : Int) (hb : Below w.heap.size w w') : RetLBO w ([], [], n) (.returned (.tuple #[.slice none 0 0, .slice none 0 0, .int .i64 n])) w' := ⟨_, _, rfl, OwnV.nil _ _ _ _, isB_nil _, hb⟩
theorem RetLBO.lb {w w' : World} {p : List Bool × List UInt8 × Int} {e : Ending} (h : RetLBO w p e w') : RetLB w p e w' := by
  obtain ⟨u, v, h1, h2, h3, h4⟩ := h
  exact ⟨u, v, h1, h2.isV, h3, h4⟩
theorem and1_u8 (y : Nat) (h : y < 256) : bits .and .u8 (y : Int) 1 = ((y % 2 : Nat) : Int) := by
  have := u8_and_nat y 1 h (by omega)
  rw [nat_mask1] at this
  exact this
def RQTakeRel (x : List UInt8) (M : Nat) (w : World) (v i : Value) (wr : World) : Prop :=
  ∃ k : Nat, k ≤ 8 * x.length ∧ i = .int .i64 (k : Int) ∧ wr.ownsRow w.heap.size 4 1 v (min k M) ((qbits x (min k M)).map Value.bool) ∧ (∀ j, M ≤ j → j < k → btake (bval x) (8 * x.length) j 1 = 0) ∧ Below w.heap.size w wr ∧ w.heap.size ≤ wr.heap.size
set_option maxHeartbeats 4000000 in
set_option maxRecDepth 100000 in
theorem rqtake_own (l : List UInt8) (v : Value) (many : Int) (w : World) (hv : IsB l v w) (hb : l.length ≤ 1000000) :
    Calls Try.prog 29 #[v, .int .i64 many] w (RetLBO w (qtakeE l many)) := by
  by_cases h0 : many < 0
  · have hE := Lib.hid (qtakeE_arg (l := l) (Or.inl h0))
    have d1 : decide (many < 0) = true := decide_eq_true h0
    go_enter Try.func29, Try.ntmps29
    go_wp2
    go_ret3
    rw [hE.out]
    exact RetLBO.nil _ (Below.refl _ _)
  · have d1 : decide (many < 0) = false := decide_eq_false h0
    by_cases h4 : 4096 < many
    · have hE := Lib.hid (qtakeE_arg (l := l) (Or.inr h4))
      have d2 : decide ((4096 : Int) < many) = true := decide_eq_true h4
      go_enter Try.func29, Try.ntmps29
      go_wp2
      go_ret3
      rw [hE.out]
      exact RetLBO.nil _ (Below.refl _ _)
    · obtain ⟨M, rfl⟩ := Int.eq_ofNat_of_zero_le (show 0 ≤ many by omega)
      have hM : M ≤ 4096 := by omega
      have d2 : decide ((4096 : Int) < (M : Int)) = false := decide_eq_false (by omega)
      rw [qtakeE_in hM]
      obtain ⟨m, hm⟩ : ∃ m, m = (M + 7) / 8 := ⟨_, rfl⟩
      have hmi : ((M : Int) + 7) / 8 = (m : Int) := by omega
      have hm5 : m ≤ 4096 := by omega
      have hM8 : M ≤ 8 * m := by omega
      have HR := Lib.hid (rtake5_any l v (m : Int) w hv hb)
      have HMm := Lib.hid hm
      clear hv hm
      cases hy : ytake m l with
      | none =>
        have hR := HR.out
        rw [ytakeE_none hm5 hy] at hR
        have HR2 := Lib.hid hR
        have hE := Lib.hid (qtakeM_none (l := l) (M := M) (by rw [← HMm.out]; exact hy))
        clear hR hy
        go_enter Try.func29, Try.ntmps29
        go_wp2_with fail
        refine HR2.out.mono ?_
        rintro e w2 ⟨u2, v2, rfl, _, _, hb2⟩
        have HB2 := Lib.hid hb2
        clear hb2
        go_wp2
        go_ret3
        rw [hE.out]
        exact RetLBO.nil _ HB2.out
      | some p =>
        obtain ⟨x, r⟩ := p
        have hR := HR.out
        rw [ytakeE_some hm5 hy] at hR
        have HR2 := Lib.hid hR
        have HY := Lib.hid hy
        have hxm := (ytake_len hy).1
        have HX := Lib.hid hxm
        clear hR hy hxm
        go_enter Try.func29, Try.ntmps29
        go_wp2_with fail
        refine HR2.out.mono ?_
        rintro e w2 ⟨u2, v2, rfl, hu2, hv2, hb2⟩
        have HU2 := Lib.hid hu2
        have HV2 := Lib.hid hv2
        have HB2 := Lib.hid hb2
        obtain ⟨Ax, cx, hux, _, _, _, _⟩ := hu2
        have hux2 : u2 = .slice Ax m cx := by rw [hux]; simp only [HX.out]
        subst hux2
        have hown0 : (w2.alloc (.cells #[] 4)).ownsRow w2.heap.size 4 1 (.slice (some ⟨w2.heap.size, 0, none⟩) 0 0) 0 [] := World.ownsRow_made w2 #[] 0 (Nat.le_refl _) (by unfold maxLen; omega) (by simp)
        have hbA2 : Below w2.heap.size w2 (w2.alloc (.cells #[] 4)) := (Below.refl _ _).alloc (Nat.le_refl _) _
        have hst : RQTakeRel x M w2 (.slice (some ⟨w2.heap.size, 0, none⟩) 0 0) (.int .i64 0) (w2.alloc (.cells #[] 4)) := ⟨0, by omega, rfl, by simpa [qbits, bnums] using hown0, fun j _ h => by omega, hbA2, hbA2.size⟩
        have HST := Lib.hid hst
        clear hux hv2 hb2 hown0 hbA2 hst
        go_wp2
        go_loopw [10, 11] (RQTakeRel x M w2) (fun _ i _ => 8 * m - (intOf i).toNat)
        case atStart => exact HST.out
        case round =>
          obtain ⟨k, hk, rfl, hown, hz, hbk, hzk⟩ := hrel
          have HZ := Lib.hid hz
          have hkm : k ≤ 8 * m := by have := HX.out; omega
          clear hz hk
          by_cases hlt : k < 8 * m
          · have hlti : (k : Int) < 8 * (m : Int) := by omega
            obtain ⟨q, hq⟩ : ∃ q, q = k / 8 := ⟨_, rfl⟩
            obtain ⟨e, he⟩ : ∃ e, e = k % 8 := ⟨_, rfl⟩
            obtain ⟨r', hr'⟩ : ∃ r', r' = 8 - k % 8 := ⟨_, rfl⟩
            obtain ⟨d, hd⟩ : ∃ d, d = r' - 1 := ⟨_, rfl⟩
            obtain ⟨hqx, htb⟩ := btake_at (l := x) (m := m) (n := 1) hq hr' hd HX.out (by omega) (by omega) (by omega)
            obtain ⟨ad, e1, _, hcell⟩ := IsV.at (f := bv) (l := x) (isB_iff.1 (HU2.out.below hbk)) hqx
            subst e1
            obtain ⟨B, hB⟩ : ∃ B : Nat, B = x[q].toNat := ⟨_, rfl⟩
            have hB8 : B < 256 := by rw [hB]; exact UInt8.toNat_lt _
            have hcx : wr.cell? (ad.add q) = some (.int .u8 (B : Int)) := by rw [hcell, hB]; rfl
            rw [← hB] at htb
            have hqi : (k : Int) / 8 = (q : Int) := by omega
            have hei : (k : Int) % 8 = (e : Int) := by omega
            have hdi : (7 : Int) - (e : Int) = (d : Int) := by omega
            have hd8 : d < 8 := by omega
            have hqm : (q : Int) < (m : Int) := by omega
            obtain ⟨β, hβ⟩ : ∃ β, β = btake (bval x) (8 * m) k 1 := ⟨_, rfl⟩
            rw [← hβ] at htb
            obtain ⟨S, hS⟩ : ∃ S, S = B / 2 ^ d := ⟨_, rfl⟩
            have hsh : (B : Int) / 2 ^ d = (S : Int) := by rw [hS]; simp
            have hS8 : S < 256 := by rw [hS]; exact Nat.lt_of_le_of_lt (Nat.div_le_self _ _) hB8
            have hand := and1_u8 S hS8
            rw [← hS] at htb
            rw [show S % 2 = β by rw [← htb]] at hand
            have hβ2 : β < 2 := by rw [hβ]; exact btake_lt _ _ _ _
            have HBe := Lib.hid hβ
            have hnext : ∀ j, M ≤ j → j < k + 1 → (k < M ∨ β = 0) → btake (bval x) (8 * x.length) j 1 = 0 := by
              intro j h1 h2 h3
              rcases Nat.lt_or_ge j k with h4 | h4
              · exact HZ.out j h1 h4
              · obtain rfl : j = k := by omega
                rcases h3 with h3 | h3
                · omega
                · rw [HX.out, ← HBe.out, h3]
            have HNx := Lib.hid hnext
            have hqb := qbits_succ x k
            rw [HX.out, ← HBe.out] at hqb
            have HQb := Lib.hid hqb
            clear hq he hr' hd hB hβ hS htb hcell hnext hqb hqx
            by_cases hkM : k < M
            · have hkMi : (k : Int) < (M : Int) := by omega
              have e0 : min k M = k := by omega
              rw [e0] at hown
              clear e0
              rcases (show β = 0 ∨ β = 1 by omega) with rfl | rfl
              · go_wp2_with (at_builtin; refine wpList_push elemL rfl _ _ rfl w2.heap.size _ _ _ (.bool false) wr w2 rfl rfl rfl rfl hown hbk hzk (by omega) (by omega) ?_)
                intro v5 w5 hown5 hb5 _ _
                have hown6 : w5.ownsRow w2.heap.size 4 1 v5 (min (k + 1) M) ((qbits x (min (k + 1) M)).map Value.bool) := by
                  rw [show min (k + 1) M = k + 1 by omega, HQb.out, List.map_append]
                  exact hown5
                clear hown5 hown
                go_wp2
                go_roundw
                case rel => exact ⟨k + 1, by have := HX.out; omega, by go_num, hown6, fun j h1 h2 => HNx.out j h1 h2 (.inl hkM), hb5, hb5.size⟩
                case measure => simp [intOf]; omega
              · go_wp2_with (at_builtin; refine wpList_push elemL rfl _ _ rfl w2.heap.size _ _ _ (.bool true) wr w2 rfl rfl rfl rfl hown hbk hzk (by omega) (by omega) ?_)
                intro v5 w5 hown5 hb5 _ _
                have hown6 : w5.ownsRow w2.heap.size 4 1 v5 (min (k + 1) M) ((qbits x (min (k + 1) M)).map Value.bool) := by
                  rw [show min (k + 1) M = k + 1 by omega, HQb.out, List.map_append]
                  exact hown5
                clear hown5 hown
                go_wp2
                go_roundw
                case rel => exact ⟨k + 1, by have := HX.out; omega, by go_num, hown6, fun j h1 h2 => HNx.out j h1 h2 (.inl hkM), hb5, hb5.size⟩
                case measure => simp [intOf]; omega
            · have hkMi : ¬ (k : Int) < (M : Int) := by omega
              rcases (show β = 0 ∨ β = 1 by omega) with rfl | rfl
              · have hown6 := hown
                rw [show min k M = min (k + 1) M by omega] at hown6
                have HO6 := Lib.hid hown6
                clear hown hown6
                go_wp2
                go_roundw
                case rel => exact ⟨k + 1, by have := HX.out; omega, by go_num, HO6.out, fun j h1 h2 => HNx.out j h1 h2 (.inr rfl), hbk, hzk⟩
                case measure => simp [intOf]; omega
              · have hne : bval x % 2 ^ (8 * x.length - M) ≠ 0 := by
                  intro h
                  have := spare_bit h (show M ≤ k by omega) (by rw [HX.out]; exact hlt)
                  rw [HX.out, ← HBe.out] at this
                  omega
                have hE := Lib.hid (qtakeM_no (l := l) (M := M) (by rw [← HMm.out]; exact HY.out) hne)
                clear hne
                go_wp2
                go_ret3
                rw [hE.out]
                exact RetLBO.nil _ (below_then HB2.out hbk)
          · obtain rfl : k = 8 * m := by omega
            have hs0 : bval x % 2 ^ (8 * x.length - M) = 0 := spare_all (by rw [HX.out]; exact hM8) fun i h1 h2 => HZ.out i h1 (by rw [HX.out] at h2; exact h2)
            have hE := Lib.hid (qtakeM_yes (l := l) (M := M) (by rw [← HMm.out]; exact HY.out) hs0)
            have hlti : ¬ ((8 * m : Nat) : Int) < 8 * (m : Int) := by omega
            rw [show min (8 * m) M = M by omega] at hown
            have HO := Lib.hid (show OwnV Value.bool 4 w (qbits x M) _ _ from OwnV.base HB2.out.size ⟨_, hown⟩)
            have HV := Lib.hid (HV2.out.below hbk)
            have HBk := Lib.hid hbk
            clear hs0 hown hbk
            go_wp2
            go_ret3
            rw [hE.out]
            exact ⟨_, _, rfl, HO.out, HV.out, below_then HB2.out HBk.out⟩
theorem rqtake_any (l : List UInt8) (v : Value) (many : Int) (w : World) (hv : IsB l v w) (hb : l.length ≤ 1000000) :
    Calls Try.prog 29 #[v, .int .i64 many] w (RetLB w (qtakeE l many)) := (rqtake_own l v many w hv hb).mono fun _ _ h => h.lb
end Go.Proofs.Ytffglnccpbbclaa
