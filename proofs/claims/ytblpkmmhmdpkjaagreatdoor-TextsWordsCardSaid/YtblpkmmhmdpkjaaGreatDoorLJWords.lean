
/- The statement TextsWords: for any texts the law answers true. No condition. -/

import Derived.StillTailTactics
import Derived.Test.YtblpkmmhmdpkjaaGreatDoorEG7
namespace Go.Proofs.YtblpkmmhmdpkjaaGreatDoor

open Go.RowKit Go.ChangeShapes Go.WideShapes Go.ChangeAt

theorem jin_next {l : List ByteArray} {s : ByteArray} {k : Nat} (h : k < l.length) : jin (l.take (k + 1)) s = (jin (l.take k) s || decide (l[k] = s)) := by
  unfold jin
  rw [List.take_succ_eq_append_getElem h, List.any_append]
  simp
/-- x[:h] by a known equation. -/
theorem wpList_slicedH {P : Program} {w : World} {ops : Array Oper} {rest : List Oper} {o : Oper} {a : Act} {Q : Exit → Act → World → Prop} (hgd : o.guard = none) (t : TypeId) (x y : Operand) (ho : o.op = .slice t x none (some y) none)
    (v : Value) (hrun : (Instr.sliceAt t (a.eval x) none (some (a.eval y)) none).run P w = .ok v w) (h : wpList P ops Q rest (a.put o.dst v) w) : wpList P ops Q (o :: rest) a w := by
  refine wpList_plain hgd fun K hK => ?_
  unfold Oper.wp execOp
  simp only [ho, Option.map_some, Option.map_none, hrun, Sem.run_bind, Sem.run_pure, Result.andThen_ok]
  exact hK _ _ h
theorem run_upto {P : Program} {t e : TypeId} {bytes : Nat} {z : Value} (E : Elem P t e bytes z) (A : Option Addr) (n c h : Nat) (W : World) (hc : h ≤ c) : (Instr.sliceAt t (.slice A n c) none (some (.int .i64 (h : Int))) none).run P W = .ok (.slice A h c) W := by
  have ht := E.under
  have he : P.elem t = e := by simp [Program.elem, ht]
  rw [run_sliceAt_slice W t _ _ _ _ (by rw [he]; exact ht), run_slice_h W t A n c (by rw [he]; exact ht) .i64 (h : Int) (by omega) (by omega), he, E.size_]
  simp [sliced]
  intro _
  cases A <;> simp [Addr.add]
/-- Whether a text was found among the first k. -/
def FoundRel (l : List ByteArray) (s : ByteArray) (w : World) (f i : Value) (wr : World) : Prop := ∃ k : Nat, k ≤ l.length ∧ i = .int .i64 (k : Int) ∧ f = .bool (jin (l.take k) s) ∧ Below w.heap.size w wr
def RoundRel (n : Nat) (w : World) (i : Value) (wr : World) : Prop := ∃ k : Nat, k ≤ n ∧ i = .int .i64 (k : Int) ∧ Below w.heap.size w wr
set_option maxHeartbeats 4000000 in
set_option maxRecDepth 100000 in
theorem TextsWords_walk (w : World) (ht : WTab w) (v0 : Value) (l0 : List ByteArray) (hI0 : IsV Value.string l0 v0 w) (_hs0 : ∀ x ∈ l0, x.size ≤ maxLen) :
    Calls Tryz.prog 6 #[v0] w fun e w' => e = .returned (.bool true) ∧ Below w.heap.size w w' := by
  obtain ⟨A0, n00, c0, rfl⟩ := IsV.shape (f := Value.string) hI0
  obtain ⟨hn0, -, hc0, hm0, -⟩ := IsV.parts (f := Value.string) hI0
  obtain ⟨n0, hmin0⟩ : ∃ n, n = min n00 300 := ⟨_, rfl⟩
  have HI := Lib.hid (IsV.take (f := Value.string) hI0 (show n0 ≤ n00 by omega))
  have HIL := Lib.hid (show (l0.take n0).length = n0 by rw [List.length_take]; omega)
  have hci0 : (c0 : Int) ≤ 9223372036854775807 := by unfold maxLen at hm0; omega
  have hnb0 : n0 ≤ 300 := by omega
  have hnc0 : n0 ≤ c0 := by omega
  obtain ⟨l0c, hl0c⟩ : ∃ l, l = l0.take n0 := ⟨_, rfl⟩
  have HSC := Lib.hid (show ∀ s ∈ l0c, s.size ≤ maxLen from fun s hs => _hs0 s (by rw [hl0c] at hs; exact List.mem_of_mem_take hs))
  rw [← hl0c] at HI HIL
  clear hI0 hn0 hm0 hl0c
  have HT := Lib.hid ht
  have hway : n00 ≤ 300 ∧ n0 = n00 ∨ 300 < n00 ∧ n0 = 300 := by omega
  clear ht _hs0 hmin0
  rcases hway with ⟨h6, rfl⟩ | ⟨h6, h7⟩
  · have hle : ¬ (300 : Int) < (n0 : Int) := by omega
    go_enter Tryz.func6, Tryz.ntmps6
    go_wp2_with fail
    refine (shown_any _ HT.out).mono ?_
    rintro e w1 ⟨rfl, hb1⟩
    have HI := Lib.hid (IsV.below HI.out hb1)
    have HT := Lib.hid (WTab.below HT.out hb1 (WTab.lt HT.out))
    have HB := Lib.hid hb1
    clear hb1
    go_wp2_with fail
    refine (jwords_own l0c _ _ HI.out HSC.out (by have := HIL.out; omega)).mono ?_
    rintro e w2 ⟨vw, rfl, hw, hb2⟩
    have HI := Lib.hid (IsV.below HI.out hb2)
    have HT := Lib.hid (WTab.below HT.out hb2 (WTab.lt HT.out))
    have HB := Lib.hid (below_then HB.out hb2)
    have HO1 := Lib.hid hw
    clear hw hb2
    have HWV := Lib.hid HO1.out.isV
    clear HO1
    obtain ⟨Aw, m, cw, rfl⟩ := HWV.out.shape
    have HMW := Lib.hid HWV.out.parts.1
    obtain ⟨ws, hws⟩ : ∃ ws, ws = jwords l0c := ⟨_, rfl⟩
    rw [← hws] at HWV HMW
    have HRI := Lib.hid (show Rises ws by rw [hws]; exact jwords_rises _)
    have HME := Lib.hid (show ∀ x, x ∈ ws ↔ x ∈ l0c by rw [hws]; exact fun x => jwords_mem)
    have hm3 : m ≤ 300 := by have h := jwords_len l0c; rw [← hws] at h; have := HMW.out; have := HIL.out; omega
    clear hws
    go_wp2
    go_loopw [5] (RoundRel m w2) (fun i _ => m - (intOf i).toNat)
    case atStart => exact ⟨0, Nat.zero_le _, rfl, Below.refl _ _⟩
    case round =>
      obtain ⟨k, hk, rfl, hbw⟩ := hrel
      by_cases hlt : k < m
      case neg =>
        obtain rfl : m = k := by omega
        have hlti : ¬ (m : Int) < (m : Int) := by omega
        obtain ⟨wz, hwz⟩ : ∃ wz, wz = wr := ⟨_, rfl⟩
        rw [← hwz] at hbw ⊢
        have HBZ := Lib.hid (below_then HB.out hbw)
        have HI := Lib.hid (IsV.below HI.out hbw)
        have HWV := Lib.hid (IsV.below HWV.out hbw)
        clear hwz hbw
        go_wp2
        go_loopw [8] (RoundRel n0 wz) (fun i _ => n0 - (intOf i).toNat)
        case atStart => exact ⟨0, Nat.zero_le _, rfl, Below.refl _ _⟩
        case round =>
          obtain ⟨k, hk, rfl, hbw⟩ := hrel
          by_cases hlt : k < n0
          case neg =>
            obtain rfl : n0 = k := by omega
            have hlti : ¬ (n0 : Int) < (n0 : Int) := by omega
            have HE := Lib.hid (below_then HBZ.out hbw)
            go_wp2
            go_ret
            exact ⟨rfl, HE.out⟩
          have hlti : (k : Int) < (n0 : Int) := by omega
          have hkl : k < l0c.length := by have := HIL.out; omega
          obtain ⟨s, hs⟩ : ∃ s, s = l0c[k] := ⟨_, rfl⟩
          obtain ⟨wx, hwx⟩ : ∃ wx, wx = wr := ⟨_, rfl⟩
          rw [← hwx] at hbw ⊢
          have HBW := Lib.hid hbw
          have HS := Lib.hid hs
          have HST : Hid (FoundRel ws s wx (.bool false) (.int .i64 0) wx) := Lib.hid ⟨0, Nat.zero_le _, rfl, rfl, Below.refl _ _⟩
          clear hwx hbw hs
          go_wp2
          go_loopw [9, 10] (FoundRel ws s wx) (fun _ i _ => m - (intOf i).toNat)
          case atStart => exact HST.out
          case round =>
            obtain ⟨j, hj, rfl, rfl, hbx⟩ := hrel
            clear HST
            have HBX := Lib.hid (below_then HBW.out hbx)
            have hjn : j ≤ m := by have := HMW.out; omega
            clear hj
            by_cases hlt2 : j < m
            case neg =>
              obtain rfl : m = j := by omega
              have hlti2 : ¬ (m : Int) < (m : Int) := by omega
              have hf : jin (ws.take m) s = true := by
                rw [List.take_of_length_le (by have := HMW.out; omega), jin_iff, HS.out]
                exact (HME.out _).2 (List.getElem_mem hkl)
              rw [hf]
              have HREL := Lib.hid (show RoundRel n0 wz (.int .i64 ((k + 1 : Nat) : Int)) wr from ⟨k + 1, hlt, rfl, HBX.out⟩)
              clear hf hbx
              go_wp2
              go_roundw
              case rel => exact HREL.out
              case measure => simp [intOf]; omega
            have hlti2 : (j : Int) < (m : Int) := by omega
            have hjl : j < ws.length := by have := HMW.out; omega
            obtain ⟨ad1, hA1, _, hc1⟩ := (IsV.below HI.out HBX.out).at hkl
            obtain ⟨ad2, hA2, _, hc2⟩ := (IsV.below HWV.out HBX.out).at hjl
            subst hA1 hA2
            obtain ⟨x, hx⟩ : ∃ x, x = ws[j] := ⟨_, rfl⟩
            rw [← HS.out] at hc1
            rw [← hx] at hc2
            have hnx := jin_next (s := s) hjl
            rw [← hx] at hnx
            have HNX := Lib.hid hnx
            clear hnx hx
            cases hff : jin (ws.take j) s with
            | true =>
              have HREL := Lib.hid (show ∀ q, FoundRel ws s wx (.bool true) (.int .i64 ((j + 1 : Nat) : Int)) (wr.drewN q) from fun q => ⟨j + 1, hjl, rfl, by rw [HNX.out, hff]; rfl, below_drewN hbx _⟩)
              clear hff hbx
              go_wp2
              go_quiet (fail)
              go_wp2
              go_roundw
              case rel => exact HREL.out _
              case measure => simp [intOf]; omega
            | false =>
              obtain ⟨b, hb⟩ : ∃ b, b = decide (x = s) := ⟨_, rfl⟩
              have hcmp : (s.toList == x.toList) = b := by rw [hb, text_eq]; exact decide_eq_decide.2 eq_comm
              have HREL := Lib.hid (show ∀ q, FoundRel ws s wx (.bool b) (.int .i64 ((j + 1 : Nat) : Int)) (wr.drewN q) from fun q => ⟨j + 1, hjl, rfl, by rw [HNX.out, hff, ← hb]; rfl, below_drewN hbx _⟩)
              clear hff hbx hb
              go_wp2
              go_quiet (fail)
              go_wp2
              go_roundw
              case rel => exact HREL.out _
              case measure => simp [intOf]; omega
      have hlti : (k : Int) < (m : Int) := by omega
      have hkl : k < ws.length := by have := HMW.out; omega
      obtain ⟨s, hs⟩ : ∃ s, s = ws[k] := ⟨_, rfl⟩
      obtain ⟨wx, hwx⟩ : ∃ wx, wx = wr := ⟨_, rfl⟩
      rw [← hwx] at hbw ⊢
      have HBW := Lib.hid hbw
      have HS := Lib.hid hs
      have HST : Hid (FoundRel l0c s wx (.bool false) (.int .i64 0) wx) := Lib.hid ⟨0, Nat.zero_le _, rfl, rfl, Below.refl _ _⟩
      clear hwx hbw hs
      go_wp2
      go_loopw [6, 7] (FoundRel l0c s wx) (fun _ i _ => n0 - (intOf i).toNat)
      case atStart => exact HST.out
      case round =>
        obtain ⟨j, hj, rfl, rfl, hbx⟩ := hrel
        clear HST
        have HBX := Lib.hid (below_then HBW.out hbx)
        have hjn : j ≤ n0 := by have := HIL.out; omega
        clear hj
        by_cases hlt2 : j < n0
        case neg =>
          obtain rfl : n0 = j := by omega
          have hlti2 : ¬ (n0 : Int) < (n0 : Int) := by omega
          have hf : jin (l0c.take n0) s = true := by
            rw [List.take_of_length_le (by have := HIL.out; omega), jin_iff, HS.out]
            exact (HME.out _).1 (List.getElem_mem hkl)
          rw [hf]
          by_cases hk0 : 0 < k
          · have hk0i : decide ((0 : Int) < (k : Int)) = true := decide_eq_true (by omega)
            obtain ⟨p, hp⟩ : ∃ p, p = k - 1 := ⟨_, rfl⟩
            have hpl : p < ws.length := by omega
            have hp1 : (k : Int) - 1 = (p : Int) := by omega
            have hpn : (p : Int) < (m : Int) := by omega
            obtain ⟨ad1, hA1, _, hc1⟩ := (IsV.below HWV.out HBX.out).at hkl
            obtain ⟨ad2, hA2, _, hc2⟩ := (IsV.below HWV.out HBX.out).at hpl
            subst hA1
            injection hA2 with hA2
            subst hA2
            have hsl : sless ws[p] ws[k] = true := List.pairwise_iff_getElem.1 HRI.out p k hpl hkl (by omega)
            obtain ⟨x, hx⟩ : ∃ x, x = ws[p] := ⟨_, rfl⟩
            rw [← HS.out, ← hx] at hsl
            rw [← HS.out] at hc1
            rw [← hx] at hc2
            have d7 : Op.bytesLess x.toList s.toList = true := hsl
            have HREL := Lib.hid (show ∀ q, RoundRel m w2 (.int .i64 ((k + 1 : Nat) : Int)) (wr.drewN q) from fun q => ⟨k + 1, hlt, rfl, below_drewN HBX.out _⟩)
            clear hf hbx hp hx hsl
            go_wp2
            go_quiet (fail)
            go_wp2
            go_roundw
            case rel => exact HREL.out _
            case measure => simp [intOf]; omega
          · have hk0i : decide ((0 : Int) < (k : Int)) = false := decide_eq_false (by omega)
            have HREL := Lib.hid (show ∀ q, RoundRel m w2 (.int .i64 ((k + 1 : Nat) : Int)) (wr.drewN q) from fun q => ⟨k + 1, hlt, rfl, below_drewN HBX.out _⟩)
            clear hf hbx
            go_wp2
            go_quiet (fail)
            go_wp2
            go_roundw
            case rel => exact HREL.out _
            case measure => simp [intOf]; omega
        have hlti2 : (j : Int) < (n0 : Int) := by omega
        have hjl : j < l0c.length := by have := HIL.out; omega
        obtain ⟨ad1, hA1, _, hc1⟩ := (IsV.below HWV.out HBX.out).at hkl
        obtain ⟨ad2, hA2, _, hc2⟩ := (IsV.below HI.out HBX.out).at hjl
        subst hA1 hA2
        obtain ⟨x, hx⟩ : ∃ x, x = l0c[j] := ⟨_, rfl⟩
        rw [← HS.out] at hc1
        rw [← hx] at hc2
        have hnx := jin_next (s := s) hjl
        rw [← hx] at hnx
        have HNX := Lib.hid hnx
        clear hnx hx
        cases hff : jin (l0c.take j) s with
        | true =>
          have HREL := Lib.hid (show ∀ q, FoundRel l0c s wx (.bool true) (.int .i64 ((j + 1 : Nat) : Int)) (wr.drewN q) from fun q => ⟨j + 1, hjl, rfl, by rw [HNX.out, hff]; rfl, below_drewN hbx _⟩)
          clear hff hbx
          go_wp2
          go_quiet (fail)
          go_wp2
          go_roundw
          case rel => exact HREL.out _
          case measure => simp [intOf]; omega
        | false =>
          obtain ⟨b, hb⟩ : ∃ b, b = decide (x = s) := ⟨_, rfl⟩
          have hcmp : (x.toList == s.toList) = b := by rw [hb, text_eq]
          have HREL := Lib.hid (show ∀ q, FoundRel l0c s wx (.bool b) (.int .i64 ((j + 1 : Nat) : Int)) (wr.drewN q) from fun q => ⟨j + 1, hjl, rfl, by rw [HNX.out, hff, ← hb]; rfl, below_drewN hbx _⟩)
          clear hff hbx hb
          go_wp2
          go_quiet (fail)
          go_wp2
          go_roundw
          case rel => exact HREL.out _
          case measure => simp [intOf]; omega
  · have hle : (300 : Int) < (n00 : Int) := by omega
    have HUP := Lib.hid (fun W => show (Instr.sliceAt 22 (.slice A0 n00 c0) none (some (.int .i64 300)) none).run Tryz.prog W = .ok (.slice A0 n0 c0) W by have h := run_upto (P := Tryz.prog) elemS A0 n00 c0 n0 W hnc0; rw [h7] at h ⊢; exact h)
    clear h7
    go_enter Tryz.func6, Tryz.ntmps6
    go_wp2_with fail
    refine (shown_any _ HT.out).mono ?_
    rintro e w1 ⟨rfl, hb1⟩
    have HI := Lib.hid (IsV.below HI.out hb1)
    have HT := Lib.hid (WTab.below HT.out hb1 (WTab.lt HT.out))
    have HB := Lib.hid hb1
    clear hb1
    go_wp2_with (refine wpList_slicedH rfl _ _ _ rfl _ (HUP.out _) ?_)
    go_wp2_with fail
    refine (jwords_own l0c _ _ HI.out HSC.out (by have := HIL.out; omega)).mono ?_
    rintro e w2 ⟨vw, rfl, hw, hb2⟩
    have HI := Lib.hid (IsV.below HI.out hb2)
    have HT := Lib.hid (WTab.below HT.out hb2 (WTab.lt HT.out))
    have HB := Lib.hid (below_then HB.out hb2)
    have HO1 := Lib.hid hw
    clear hw hb2
    have HWV := Lib.hid HO1.out.isV
    clear HO1
    obtain ⟨Aw, m, cw, rfl⟩ := HWV.out.shape
    have HMW := Lib.hid HWV.out.parts.1
    obtain ⟨ws, hws⟩ : ∃ ws, ws = jwords l0c := ⟨_, rfl⟩
    rw [← hws] at HWV HMW
    have HRI := Lib.hid (show Rises ws by rw [hws]; exact jwords_rises _)
    have HME := Lib.hid (show ∀ x, x ∈ ws ↔ x ∈ l0c by rw [hws]; exact fun x => jwords_mem)
    have hm3 : m ≤ 300 := by have h := jwords_len l0c; rw [← hws] at h; have := HMW.out; have := HIL.out; omega
    clear hws
    go_wp2
    go_loopw [5] (RoundRel m w2) (fun i _ => m - (intOf i).toNat)
    case atStart => exact ⟨0, Nat.zero_le _, rfl, Below.refl _ _⟩
    case round =>
      obtain ⟨k, hk, rfl, hbw⟩ := hrel
      by_cases hlt : k < m
      case neg =>
        obtain rfl : m = k := by omega
        have hlti : ¬ (m : Int) < (m : Int) := by omega
        obtain ⟨wz, hwz⟩ : ∃ wz, wz = wr := ⟨_, rfl⟩
        rw [← hwz] at hbw ⊢
        have HBZ := Lib.hid (below_then HB.out hbw)
        have HI := Lib.hid (IsV.below HI.out hbw)
        have HWV := Lib.hid (IsV.below HWV.out hbw)
        clear hwz hbw
        go_wp2
        go_loopw [8] (RoundRel n0 wz) (fun i _ => n0 - (intOf i).toNat)
        case atStart => exact ⟨0, Nat.zero_le _, rfl, Below.refl _ _⟩
        case round =>
          obtain ⟨k, hk, rfl, hbw⟩ := hrel
          by_cases hlt : k < n0
          case neg =>
            obtain rfl : n0 = k := by omega
            have hlti : ¬ (n0 : Int) < (n0 : Int) := by omega
            have HE := Lib.hid (below_then HBZ.out hbw)
            go_wp2
            go_ret
            exact ⟨rfl, HE.out⟩
          have hlti : (k : Int) < (n0 : Int) := by omega
          have hkl : k < l0c.length := by have := HIL.out; omega
          obtain ⟨s, hs⟩ : ∃ s, s = l0c[k] := ⟨_, rfl⟩
          obtain ⟨wx, hwx⟩ : ∃ wx, wx = wr := ⟨_, rfl⟩
          rw [← hwx] at hbw ⊢
          have HBW := Lib.hid hbw
          have HS := Lib.hid hs
          have HST : Hid (FoundRel ws s wx (.bool false) (.int .i64 0) wx) := Lib.hid ⟨0, Nat.zero_le _, rfl, rfl, Below.refl _ _⟩
          clear hwx hbw hs
          go_wp2
          go_loopw [9, 10] (FoundRel ws s wx) (fun _ i _ => m - (intOf i).toNat)
          case atStart => exact HST.out
          case round =>
            obtain ⟨j, hj, rfl, rfl, hbx⟩ := hrel
            clear HST
            have HBX := Lib.hid (below_then HBW.out hbx)
            have hjn : j ≤ m := by have := HMW.out; omega
            clear hj
            by_cases hlt2 : j < m
            case neg =>
              obtain rfl : m = j := by omega
              have hlti2 : ¬ (m : Int) < (m : Int) := by omega
              have hf : jin (ws.take m) s = true := by
                rw [List.take_of_length_le (by have := HMW.out; omega), jin_iff, HS.out]
                exact (HME.out _).2 (List.getElem_mem hkl)
              rw [hf]
              have HREL := Lib.hid (show RoundRel n0 wz (.int .i64 ((k + 1 : Nat) : Int)) wr from ⟨k + 1, hlt, rfl, HBX.out⟩)
              clear hf hbx
              go_wp2
              go_roundw
              case rel => exact HREL.out
              case measure => simp [intOf]; omega
            have hlti2 : (j : Int) < (m : Int) := by omega
            have hjl : j < ws.length := by have := HMW.out; omega
            obtain ⟨ad1, hA1, _, hc1⟩ := (IsV.below HI.out HBX.out).at hkl
            obtain ⟨ad2, hA2, _, hc2⟩ := (IsV.below HWV.out HBX.out).at hjl
            subst hA1 hA2
            obtain ⟨x, hx⟩ : ∃ x, x = ws[j] := ⟨_, rfl⟩
            rw [← HS.out] at hc1
            rw [← hx] at hc2
            have hnx := jin_next (s := s) hjl
            rw [← hx] at hnx
            have HNX := Lib.hid hnx
            clear hnx hx
            cases hff : jin (ws.take j) s with
            | true =>
              have HREL := Lib.hid (show ∀ q, FoundRel ws s wx (.bool true) (.int .i64 ((j + 1 : Nat) : Int)) (wr.drewN q) from fun q => ⟨j + 1, hjl, rfl, by rw [HNX.out, hff]; rfl, below_drewN hbx _⟩)
              clear hff hbx
              go_wp2
              go_quiet (fail)
              go_wp2
              go_roundw
              case rel => exact HREL.out _
              case measure => simp [intOf]; omega
            | false =>
              obtain ⟨b, hb⟩ : ∃ b, b = decide (x = s) := ⟨_, rfl⟩
              have hcmp : (s.toList == x.toList) = b := by rw [hb, text_eq]; exact decide_eq_decide.2 eq_comm
              have HREL := Lib.hid (show ∀ q, FoundRel ws s wx (.bool b) (.int .i64 ((j + 1 : Nat) : Int)) (wr.drewN q) from fun q => ⟨j + 1, hjl, rfl, by rw [HNX.out, hff, ← hb]; rfl, below_drewN hbx _⟩)
              clear hff hbx hb
              go_wp2
              go_quiet (fail)
              go_wp2
              go_roundw
              case rel => exact HREL.out _
              case measure => simp [intOf]; omega
      have hlti : (k : Int) < (m : Int) := by omega
      have hkl : k < ws.length := by have := HMW.out; omega
      obtain ⟨s, hs⟩ : ∃ s, s = ws[k] := ⟨_, rfl⟩
      obtain ⟨wx, hwx⟩ : ∃ wx, wx = wr := ⟨_, rfl⟩
      rw [← hwx] at hbw ⊢
      have HBW := Lib.hid hbw
      have HS := Lib.hid hs
      have HST : Hid (FoundRel l0c s wx (.bool false) (.int .i64 0) wx) := Lib.hid ⟨0, Nat.zero_le _, rfl, rfl, Below.refl _ _⟩
      clear hwx hbw hs
      go_wp2
      go_loopw [6, 7] (FoundRel l0c s wx) (fun _ i _ => n0 - (intOf i).toNat)
      case atStart => exact HST.out
      case round =>
        obtain ⟨j, hj, rfl, rfl, hbx⟩ := hrel
        clear HST
        have HBX := Lib.hid (below_then HBW.out hbx)
        have hjn : j ≤ n0 := by have := HIL.out; omega
        clear hj
        by_cases hlt2 : j < n0
        case neg =>
          obtain rfl : n0 = j := by omega
          have hlti2 : ¬ (n0 : Int) < (n0 : Int) := by omega
          have hf : jin (l0c.take n0) s = true := by
            rw [List.take_of_length_le (by have := HIL.out; omega), jin_iff, HS.out]
            exact (HME.out _).1 (List.getElem_mem hkl)
          rw [hf]
          by_cases hk0 : 0 < k
          · have hk0i : decide ((0 : Int) < (k : Int)) = true := decide_eq_true (by omega)
            obtain ⟨p, hp⟩ : ∃ p, p = k - 1 := ⟨_, rfl⟩
            have hpl : p < ws.length := by omega
            have hp1 : (k : Int) - 1 = (p : Int) := by omega
            have hpn : (p : Int) < (m : Int) := by omega
            obtain ⟨ad1, hA1, _, hc1⟩ := (IsV.below HWV.out HBX.out).at hkl
            obtain ⟨ad2, hA2, _, hc2⟩ := (IsV.below HWV.out HBX.out).at hpl
            subst hA1
            injection hA2 with hA2
            subst hA2
            have hsl : sless ws[p] ws[k] = true := List.pairwise_iff_getElem.1 HRI.out p k hpl hkl (by omega)
            obtain ⟨x, hx⟩ : ∃ x, x = ws[p] := ⟨_, rfl⟩
            rw [← HS.out, ← hx] at hsl
            rw [← HS.out] at hc1
            rw [← hx] at hc2
            have d7 : Op.bytesLess x.toList s.toList = true := hsl
            have HREL := Lib.hid (show ∀ q, RoundRel m w2 (.int .i64 ((k + 1 : Nat) : Int)) (wr.drewN q) from fun q => ⟨k + 1, hlt, rfl, below_drewN HBX.out _⟩)
            clear hf hbx hp hx hsl
            go_wp2
            go_quiet (fail)
            go_wp2
            go_roundw
            case rel => exact HREL.out _
            case measure => simp [intOf]; omega
          · have hk0i : decide ((0 : Int) < (k : Int)) = false := decide_eq_false (by omega)
            have HREL := Lib.hid (show ∀ q, RoundRel m w2 (.int .i64 ((k + 1 : Nat) : Int)) (wr.drewN q) from fun q => ⟨k + 1, hlt, rfl, below_drewN HBX.out _⟩)
            clear hf hbx
            go_wp2
            go_quiet (fail)
            go_wp2
            go_roundw
            case rel => exact HREL.out _
            case measure => simp [intOf]; omega
        have hlti2 : (j : Int) < (n0 : Int) := by omega
        have hjl : j < l0c.length := by have := HIL.out; omega
        obtain ⟨ad1, hA1, _, hc1⟩ := (IsV.below HWV.out HBX.out).at hkl
        obtain ⟨ad2, hA2, _, hc2⟩ := (IsV.below HI.out HBX.out).at hjl
        subst hA1 hA2
        obtain ⟨x, hx⟩ : ∃ x, x = l0c[j] := ⟨_, rfl⟩
        rw [← HS.out] at hc1
        rw [← hx] at hc2
        have hnx := jin_next (s := s) hjl
        rw [← hx] at hnx
        have HNX := Lib.hid hnx
        clear hnx hx
        cases hff : jin (l0c.take j) s with
        | true =>
          have HREL := Lib.hid (show ∀ q, FoundRel l0c s wx (.bool true) (.int .i64 ((j + 1 : Nat) : Int)) (wr.drewN q) from fun q => ⟨j + 1, hjl, rfl, by rw [HNX.out, hff]; rfl, below_drewN hbx _⟩)
          clear hff hbx
          go_wp2
          go_quiet (fail)
          go_wp2
          go_roundw
          case rel => exact HREL.out _
          case measure => simp [intOf]; omega
        | false =>
          obtain ⟨b, hb⟩ : ∃ b, b = decide (x = s) := ⟨_, rfl⟩
          have hcmp : (x.toList == s.toList) = b := by rw [hb, text_eq]
          have HREL := Lib.hid (show ∀ q, FoundRel l0c s wx (.bool b) (.int .i64 ((j + 1 : Nat) : Int)) (wr.drewN q) from fun q => ⟨j + 1, hjl, rfl, by rw [HNX.out, hff, ← hb]; rfl, below_drewN hbx _⟩)
          clear hff hbx hb
          go_wp2
          go_quiet (fail)
          go_wp2
          go_roundw
          case rel => exact HREL.out _
          case measure => simp [intOf]; omega

set_option maxRecDepth 100000 in
theorem TextsWords_lifted (os : Os) (started : os.Started) (H : Type) (enc : TypeId × Value → H) :
    ReturnsInHanded {} Tryz.checked os 6 .any (fun w args => (Rows.textsWordsSpec.pre enc Tryz.prog Tryz.f6 [] false w args ∧ laidMetH Tryz.prog [("pilaster/widths.table", Rows.laid_pilaster_widths_table)] w) ∧ sizedMet enc Tryz.prog Tryz.f6 (OpenSpec.ofChange Rows.textsWordsSpec) false w args) (Rows.textsWordsSpec.post enc Tryz.prog Tryz.f6 false true false false) := by
  refine returnsInHanded_of_change_and (C := Tryz.checked) (X := fun w _ => laidMetH Tryz.prog [("pilaster/widths.table", Rows.laid_pilaster_widths_table)] w) (fun _ _ _ hh h => h.of_heap hh) own started (by kernel_rfl) Tryz.func6
    (ChangeSpec.witness_shaped (enc := enc) (C := Tryz.checked) (os := os) (X := fun w _ => laidMetH Tryz.prog [("pilaster/widths.table", Rows.laid_pilaster_widths_table)] w) false (World.doorLaid Tryz.prog 400 os) #[.slice none 0 0] 8 rfl (World.shaped_of_RefB (by kernel_rfl) (by kernel_rfl)) (by kernel_rfl) (by kernel_rfl) (by kernel_rfl) (door_met os _)) ?_
  intro W base args ds gs before hval0 hW _ _ hL _
  have hT := tab_of hL
  clear hL
  have hval : ∀ (j : Nat) t v, Tryz.f6.params[j]? = some t → args[j]? = some v → Value.okWide Tryz.prog W .any base t v := hval0
  have hW' := hW
  obtain ⟨p, q, hT0, hV, rfl, hfz, hnd⟩ := hW
  have hA : DataW.TrodAll enc Tryz.prog W 0 (fun _ => true) true Tryz.f6.params.toList args.toList ds p := hT0
  rw [Tryz.params6] at hA hval
  obtain ⟨v0, vs0, d0, ds0, p0, q0, hargs, rfl, rfl, h0, r0⟩ := trodAll_cons hA
  obtain ⟨rfl, rfl, rfl⟩ := trodAll_nil r0
  obtain rfl : args = #[v0] := by cases args; simp_all
  obtain ⟨rfl, rfl⟩ := trodVars_none hV
  have hlt0 : ∀ x ∈ p0, x.block < W.heap.size := fun x hx => hW'.lt x (by simp [hx])
  obtain ⟨l0, hl0, hp0⟩ := open_texts (hval 0 22 v0 rfl rfl) h0 hlt0
  clear hT0 hval0
  refine (TextsWords_walk W hT v0 l0 hl0 hp0).mono fun e W' ⟨he, hb⟩ => ?_
  subst he
  exact ⟨_, rfl, law_post laidOut Tryz.underlying4 (by kernel_rfl) (by kernel_rfl) rfl hW' rfl hb⟩

theorem TextsWords_over : Rows.textsWordsRow.holds Tryz.pinned (OpenSpec.ofChange Rows.textsWordsSpec) :=
  OpenClaim.holds_of_wide 6 Tryz.f6 rfl rfl rfl rfl rfl rfl rfl ⟨rfl, rfl, rfl, rfl, rfl⟩ rfl rfl rfl rfl rfl (by kernel_rfl) Tryz.func6 (by kernel_rfl)
    (of_decide_eq_true (by kernel_rfl)) (by unfold Func.isWrapper; first | (rw [if_pos (by decide +kernel)]; kernel_rfl) | (rw [if_neg (by decide +kernel)]; exact ⟨rfl, rfl⟩))
    (fun os started H enc _ => TextsWords_lifted os started H enc)

theorem TextsWords_holds : Rows.TextsWordsCardSaid :=
  Claim7.holds_tied_plain_at .later [] _ true _ _ TextsWords_over (fun _ h => by cases h) (by kernel_rfl) (fun _ h => by cases h) textsWords_row_tie rfl ⟨rfl, rfl⟩ (by kernel_rfl) rfl
    (fun f fn hf hfn => by
      obtain rfl : f = 6 := Option.some.inj ((show Tryz.prog.funcNamed "pilaster/pilasterlaw15.TextsWords" = some 6 by kernel_rfl).symm.trans hf) |>.symm
      obtain rfl : fn = Tryz.f6 := (Option.some.inj (Tryz.func6.symm.trans hfn)).symm
      exact ⟨by kernel_rfl, fun j t ht => stand_ins (by kernel_rfl) ht⟩)
    (by kernel_rfl)
#print axioms TextsWords_holds

end Go.Proofs.YtblpkmmhmdpkjaaGreatDoor
