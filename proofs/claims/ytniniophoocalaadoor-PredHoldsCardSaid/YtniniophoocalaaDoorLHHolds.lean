
/- The statement PredHolds: for any columns, nodes and rows the law answers true. No condition. Written by gen_pred_holds.py. -/

import Derived.StillTailTactics
import Derived.Deep.CutRange
import Derived.Test.YtniniophoocalaaDoorG7
namespace Go.Proofs.YtniniophoocalaaDoor

open Go.RowKit Go.ChangeShapes Go.WideShapes Go.ChangeAt

set_option maxHeartbeats 8000000 in
set_option maxRecDepth 100000 in
theorem PredHolds_walk (w : World) (hU : Tryd.U8 w) (v0 : Value) (l0 : List CC) (h0 : IsR ccells l0 v0 w) (hs0 : ∀ x ∈ l0, x.s.size ≤ maxLen) (_hk0 : ∀ x ∈ l0, -9223372036854775808 ≤ x.kind ∧ x.kind ≤ 9223372036854775807) (v1 : Value) (l1 : List HN) (h1 : IsPreds l1 v1 w) (v2 : Value) (l2 : List (List CV × Value)) (h2 : IsRows l2 v2 w) :
    Calls Tryd.prog 6 #[v0, v1, v2] w fun e w' => e = .returned (.bool true) ∧ Below w.heap.size w w' := by
  obtain ⟨Ac, nc, cc, rfl⟩ := h0.shape
  obtain ⟨A, n, c, rfl⟩ := h2.1.shape
  have HU := Lib.hid hU
  have HC := Lib.hid h0
  have HP := Lib.hid h1
  have HR := Lib.hid h2
  have HCN := Lib.hid h0.parts.1
  have HRN := Lib.hid h2.1.parts.1
  have hn9 : (n : Int) ≤ 9223372036854775807 := by obtain ⟨_, _, h3, h4, _⟩ := h2.1.parts; unfold maxLen at h4; omega
  have hnc9 : (nc : Int) ≤ 9223372036854775807 := by obtain ⟨_, _, h3, h4, _⟩ := h0.parts; unfold maxLen at h4; omega
  obtain ⟨m, hm⟩ : ∃ m, m = l1.take 45 := ⟨_, rfl⟩
  have HF := Lib.hid (fun X (h : IsPreds l1 v1 X) => few18_any l1 v1 X h)
  rw [← hm] at HF
  have HMAY := Lib.hid (fun u X (hX : Tryd.U8 X) (hc : IsR ccells l0 (.slice Ac nc cc) X) (hp : IsPreds m u X) => rmay18_any l0 m (.slice Ac nc cc) u X hX hc hp)
  have HSCH := Lib.hid (fun X (hc : IsR ccells l0 (.slice Ac nc cc) X) => rschema12_own l0 (.slice Ac nc cc) X hc hs0)
  have HSH := Lib.hid (shown18_any w hU)
  clear hU h0 h1 h2 hs0 _hk0 hm
  cases hmay : hpmayE (hpks l0) m with
  | false =>
    rw [hmay] at HMAY
    clear hmay
    go_enter Tryd.func6, Tryd.ntmps6
    go_wp2_with fail
    refine HSH.out.mono ?_
    rintro e w1 ⟨rfl, hb1⟩
    have HB1 := Lib.hid hb1
    have HU1 := Lib.hid (Utf8Tabs_below HU.out hb1)
    have HP1 := Lib.hid (HP.out.below hb1)
    clear hb1
    go_wp2_with fail
    refine (HF.out w1 HP1.out).mono ?_
    rintro e w2 ⟨⟨u, rfl, hu⟩, rfl⟩
    have HP2 := Lib.hid hu
    clear hu
    go_wp2_with fail
    refine (HMAY.out u w1 HU1.out (HC.out.below HB1.out) HP2.out).mono ?_
    rintro e w3 ⟨rfl, hb3⟩
    have HB3 := Lib.hid (below_then HB1.out hb3)
    have HP3 := Lib.hid (HP2.out.below hb3)
    clear hb3
    go_wp2
    go_ret
    exact ⟨rfl, HB3.out⟩
  | true =>
    rw [hmay] at HMAY
    have HOK := Lib.hid (hpmay_ok hmay)
    clear hmay
    rcases hschH_or l0 with ⟨hz, hl6⟩ | hz
    · rw [hz] at HSCH
      have HL6 := Lib.hid hl6
      clear hz hl6
      go_enter Tryd.func6, Tryd.ntmps6
      go_wp2_with fail
      refine HSH.out.mono ?_
      rintro e w1 ⟨rfl, hb1⟩
      have HB1 := Lib.hid hb1
      have HU1 := Lib.hid (Utf8Tabs_below HU.out hb1)
      have HP1 := Lib.hid (HP.out.below hb1)
      clear hb1
      go_wp2_with fail
      refine (HF.out w1 HP1.out).mono ?_
      rintro e w2 ⟨⟨u, rfl, hu⟩, rfl⟩
      have HP2 := Lib.hid hu
      clear hu
      go_wp2_with fail
      refine (HMAY.out u w1 HU1.out (HC.out.below HB1.out) HP2.out).mono ?_
      rintro e w3 ⟨rfl, hb3⟩
      have HB3 := Lib.hid (below_then HB1.out hb3)
      have HP3 := Lib.hid (HP2.out.below hb3)
      clear hb3
      go_wp2_with fail
      refine (HSCH.out w3 (HC.out.below HB3.out)).mono ?_
      rintro e w4 ⟨rfl, hb4⟩
      have HB4 := Lib.hid (below_then HB3.out hb4)
      have HP4 := Lib.hid (HP3.out.below hb4)
      clear hb4
      have HU4 := Lib.hid (Utf8Tabs_below HU.out HB4.out)
      have HC4 := Lib.hid (HC.out.below HB4.out)
      have HR4 := Lib.hid (HR.out.below HB4.out)
      obtain ⟨eb, heb, hE⟩ := elemRow
      have HEB := Lib.hid hE
      clear hE
      have HST : Hid (HOwnRel l0 l2 w4 (.slice (some ⟨w4.heap.size, 0, none⟩) 0 0) (.int .i64 0) (w4.alloc (.cells #[] 32))) := Lib.hid ⟨0, Nat.zero_le _, Nat.zero_le _, rfl, ownW_made w4 32 1, (Below.refl _ _).alloc (Nat.le_refl _) _⟩
      go_wp2
      go_loopw [9, 10] (HOwnRel l0 l2 w4) (fun _ i _ => n - (intOf i).toNat)
      case atStart => exact HST.out
      case round =>
        obtain ⟨k, hk, hk20, rfl, how, hbw⟩ := hrel
        clear HST
        have HBW := Lib.hid hbw
        have HOWN := Lib.hid how
        obtain ⟨q, hq⟩ : ∃ q, q = (decide (k < n) && decide (k < 20)) := ⟨_, rfl⟩
        go_upto_region 8 with fail
        go_cut [40] from 33 to 56 (fun c wx => c = .bool q ∧ wr = wx)
        case first =>
          by_cases h1 : k < n
          · have h1i : (k : Int) < (n : Int) := by omega
            by_cases h2 : k < 20
            · have h2i : (k : Int) < 20 := by omega
              go_wp2
              go_meet
              exact ⟨by rw [hq]; simp [h1, h2], rfl⟩
            · have h2i : ¬ (k : Int) < 20 := by omega
              go_wp2
              go_meet
              exact ⟨by rw [hq]; simp [h1, h2], rfl⟩
          · have h1i : ¬ (k : Int) < (n : Int) := by omega
            go_wp2
            go_meet
            exact ⟨by rw [hq]; simp [h1], rfl⟩
        case rest =>
        obtain ⟨rfl, rfl⟩ := hcut
        cases q with
        | true =>
          obtain ⟨h1, h2⟩ : k < n ∧ k < 20 := by simpa using hq.symm
          clear hq
          have h1i : (k : Int) < (n : Int) := by omega
          have hkl : k < l2.length := by have := HRN.out; omega
          obtain ⟨ad, rfl, had, hcell⟩ := ((HR4.out.below hbw).1).at (m := 1) (fun _ => rfl) (by omega) hkl
          obtain ⟨⟨r, rv⟩, hr⟩ : ∃ x, x = l2[k] := ⟨_, rfl⟩
          have hrow := (HR4.out.below hbw).2 _ (List.getElem_mem hkl)
          rw [← hr] at hrow hcell
          obtain ⟨rA, rn, rc, erv⟩ := hrow.row.shape
          dsimp only at erv
          subst erv
          have c0 : wr.cell? (ad.add k) = some (.slice rA rn rc) := by have h := hcell 0 (by omega); rw [Nat.mul_one, Nat.add_zero] at h; exact h
          have HAB := Lib.hid had
          have HKR := Lib.hid c0
          have HROW0 := Lib.hid (fun X (hX : Below wr.heap.size wr X) => rrow12_own l0 r (.slice Ac nc cc) (.slice rA rn rc) X (Utf8Tabs_below HU4.out (below_then hbw hX)) ((HC4.out.below hbw).below hX) (hrow.below hX).row hrow.sizes (by have := HL6.out; omega))
          have HRE := Lib.hid hr
          have HKL := Lib.hid hkl
          rcases hrowH_or l0 r with ⟨hz, hlen⟩ | hz
          · have HROW := HROW0
            rw [hz] at HROW
            have HNX := Lib.hid (show hown l0 (l2.take (k + 1)) = hown l0 (l2.take k) ++ [(r, .slice rA rn rc)] by rw [hown_yes hkl (by rw [← hr]; exact hz), ← hr])
            clear hz HROW0 hcell had hr hbw how hlen hrow
            go_wp2_with fail
            refine (HROW.out wr (Below.refl _ _)).mono ?_
            rintro e w5 ⟨rfl, hb5⟩
            have c1 : w5.cell? (ad.add k) = some (.slice rA rn rc) := (hb5.cell (by rw [add_block]; exact HAB.out)).trans HKR.out
            have HO5 := Lib.hid (own_below HOWN.out hb5)
            have HB5 := Lib.hid (below_then HBW.out hb5)
            have hz5 : w4.heap.size ≤ w5.heap.size := HB5.out.size
            have hol := hown_len l0 l2 k
            clear c0 hb5
            go_wp2_with (at_builtin; refine wpList_pushG HEB.out rfl _ _ rfl w4.heap.size _ _ _ [.slice rA rn rc] w5 w4 _ rfl rfl rfl rfl rfl (by intro x hx; rw [List.mem_singleton.1 hx]; rfl) HO5.out HB5.out hz5 (by omega) heb ?_)
            intro v7 w7 ho7 hb7 _ _
            have HREL := Lib.hid (show HOwnRel l0 l2 w4 v7 (.int .i64 ((k + 1 : Nat) : Int)) w7 from ⟨k + 1, HKL.out, by omega, rfl, by rw [HNX.out, List.flatMap_append, List.length_append]; exact ho7, hb7⟩)
            clear ho7 hb7 c1
            go_wp2
            go_roundw
            case rel => exact HREL.out
            case measure => simp [intOf]; omega
          · have HROW := HROW0
            rw [hz] at HROW
            have HNX := Lib.hid (show hown l0 (l2.take (k + 1)) = hown l0 (l2.take k) by rw [hown_no hkl (by rw [← hr]; exact hz)])
            clear hz HROW0 hcell had hr hbw how hrow
            go_wp2_with fail
            refine (HROW.out wr (Below.refl _ _)).mono ?_
            rintro e w5 ⟨rfl, hb5⟩
            have HREL := Lib.hid (show HOwnRel l0 l2 w4 u9 (.int .i64 ((k + 1 : Nat) : Int)) w5 from ⟨k + 1, HKL.out, by omega, rfl, by rw [HNX.out]; exact own_below HOWN.out hb5, below_then HBW.out hb5⟩)
            clear c0 hb5
            go_wp2
            go_roundw
            case rel => exact HREL.out
            case measure => simp [intOf]; omega
        | false =>
          clear hq
          obtain ⟨rs, hrs⟩ : ∃ rs, rs = hown l0 (l2.take k) := ⟨_, rfl⟩
          rw [← hrs] at how
          have hrl : rs.length ≤ 20 := by rw [hrs]; exact Nat.le_trans (hown_len _ _ _) hk20
          have hmem : ∀ r ∈ rs, HRow r.1 r.2 wr ∧ krow l0 r.1 = 0 := fun r hr => by
            rw [hrs] at hr
            obtain ⟨h1, h2⟩ := hown_mem hr
            exact ⟨(HR4.out.below hbw).2 r h1, h2⟩
          have hrs5 : IsRows rs u9 wr := isRows_own how fun r hr => (hmem r hr).1
          have HZ := Lib.hid (fun r (hr : r ∈ rs) => (hmem r hr).2)
          obtain ⟨w5, rfl⟩ : ∃ x, x = wr := ⟨_, rfl⟩
          obtain ⟨A9, n9, c9, rfl⟩ := hrs5.1.shape
          have HRS5 := Lib.hid hrs5
          have HN9 := Lib.hid hrs5.1.parts.1
          have hn20 : n9 ≤ 20 := by have := HN9.out; omega
          have hn20i : (n9 : Int) ≤ 20 := by omega
          have HB5 := Lib.hid (below_then HB4.out hbw)
          have HU5 := Lib.hid (Utf8Tabs_below HU.out HB5.out)
          have HC5 := Lib.hid (HC4.out.below hbw)
          have HP5 := Lib.hid (HP4.out.below hbw)
          obtain ⟨gb, hgb, hGE⟩ := elemGS
          have HGE := Lib.hid hGE
          have HST2 : Hid (HStatRel (hpks l0) rs nc w5 (.slice (some ⟨w5.heap.size, 0, none⟩) 0 0) (.int .i64 0) (w5.alloc (.cells #[] 43))) := Lib.hid ⟨0, Nat.zero_le _, rfl, ownW_made w5 43 10, (Below.refl _ _).alloc (Nat.le_refl _) _⟩
          clear how hrs hmem hrs5 hbw hGE HOWN HBW HEB HR4 HRN hk hk20 heb
          go_wp2
          go_loopw [11, 12] (HStatRel (hpks l0) rs nc w5) (fun _ i _ => nc - (intOf i).toNat)
          case atStart => exact HST2.out
          case round =>
            obtain ⟨k2, hk2, rfl, how2, hbw2⟩ := hrel
            clear HST2
            have HBW2 := Lib.hid hbw2
            have HOWN2 := Lib.hid how2
            obtain ⟨w6, rfl⟩ : ∃ x, x = wr := ⟨_, rfl⟩
            by_cases hlt : k2 < nc
            · have hlti : (k2 : Int) < (nc : Int) := by omega
              have hkl : k2 < l0.length := by have := HCN.out; omega
              obtain ⟨adc, hAc, hadc, hcc⟩ := (HC5.out.below hbw2).at (m := 2) (fun _ => rfl) (by omega) hkl
              subst hAc
              obtain ⟨kd, hkd⟩ : ∃ kd, kd = l0[k2].kind := ⟨_, rfl⟩
              have HKC : Hid (w6.cell? (adc.add (k2 * 2 + 1)) = some (.int .i64 kd)) := Lib.hid (by rw [hcc 1 (by omega), hkd]; rfl)
              have HKD := Lib.hid (show (hpks l0).getD k2 0 = kd by unfold hpks; rw [getD_lt (by rw [List.length_map]; exact hkl), List.getElem_map, hkd])
              have HAC := Lib.hid hadc
              have HKL := Lib.hid hkl
              have HRS6 := Lib.hid (HRS5.out.below hbw2)
              have HST3 : Hid (HColRel rs k2 w6 (.slice (some ⟨w6.heap.size, 0, none⟩) 0 0) (.int .i64 0) (w6.alloc (.cells #[] 41))) := Lib.hid ⟨0, Nat.zero_le _, rfl, ownW_made w6 41 3, (Below.refl _ _).alloc (Nat.le_refl _) _⟩
              clear how2 hbw2 hcc hkd hadc hkl
              go_wp2
              go_loopw [13, 14] (HColRel rs k2 w6) (fun _ i _ => n9 - (intOf i).toNat)
              case atStart => exact HST3.out
              case round =>
                obtain ⟨j, hj, rfl, how3, hbw3⟩ := hrel
                clear HST3
                have HBW3 := Lib.hid hbw3
                have HOWN3 := Lib.hid how3
                obtain ⟨w7, rfl⟩ : ∃ x, x = wr := ⟨_, rfl⟩
                by_cases hjt : j < n9
                · have hjti : (j : Int) < (n9 : Int) := by omega
                  have hjl : j < rs.length := by have := HN9.out; omega
                  obtain ⟨ad, rfl, had, hcell⟩ := ((HRS6.out.below hbw3).1).at (m := 1) (fun _ => rfl) (by omega) hjl
                  obtain ⟨⟨r, rv⟩, hr⟩ : ∃ x, x = rs[j] := ⟨_, rfl⟩
                  have hrow := (HRS6.out.below hbw3).2 _ (List.getElem_mem hjl)
                  have hz := HZ.out _ (List.getElem_mem hjl)
                  have hnx := hcol_snoc k2 hjl
                  rw [← hr] at hrow hcell hz hnx
                  obtain ⟨rA, rn, rc, erv⟩ := hrow.row.shape
                  dsimp only at erv hz hnx
                  subst erv
                  have c0 : w7.cell? (ad.add j) = some (.slice rA rn rc) := by have h := hcell 0 (by omega); rw [Nat.mul_one, Nat.add_zero] at h; exact h
                  have hlen : l0.length = r.length := by
                    rcases hrowH_or l0 r with ⟨_, h⟩ | h
                    · exact h
                    · rw [h] at hz; cases hz
                  have hkr : k2 < r.length := by have := HKL.out; omega
                  have hrnl := hrow.row.parts.1
                  obtain ⟨ad2, rfl, had2, hcell2⟩ := hrow.row.at (m := 3) (fun _ => rfl) (by omega) hkr
                  obtain ⟨x, hx⟩ : ∃ x, x = r[k2] := ⟨_, rfl⟩
                  rw [← hx] at hcell2
                  rw [getD_lt hkr, ← hx] at hnx
                  obtain ⟨d0, d1, d2⟩ := cells3 hcell2
                  have HNX := Lib.hid hnx
                  have HJL := Lib.hid hjl
                  have hkrn : k2 < rn := by dsimp only at hrnl; omega
                  have hkrni : (k2 : Int) < (rn : Int) := by omega
                  have hrnb : (rn : Int) ≤ 1000000 := by have := HL6.out; dsimp only at hrnl; omega
                  obtain ⟨xb, xn, xs⟩ := x
                  dsimp only at d0 d1 d2
                  have hz7 : w6.heap.size ≤ w7.heap.size := hbw3.size
                  clear hcell hcell2 hrow hz hnx hx hr hlen hkr hrnl hjl had had2
                  go_wp2_with (at_builtin; refine wpList_pushG elemW rfl _ _ rfl w6.heap.size _ _ _ (kcells ⟨xb, xn, xs⟩) w7 w6 _ rfl rfl rfl rfl rfl (kcells_one _) HOWN3.out HBW3.out hz7 (by omega) (by omega) ?_)
                  intro v8 w8 ho8 hb8 _ _
                  have HREL := Lib.hid (show HColRel rs k2 w6 v8 (.int .i64 ((j + 1 : Nat) : Int)) w8 from ⟨j + 1, HJL.out, rfl, by rw [HNX.out, List.flatMap_append]; simpa using ho8, hb8⟩)
                  clear ho8 hb8 how3 hbw3 hz7
                  go_wp2
                  go_roundw
                  case rel => exact HREL.out
                  case measure => simp [intOf]; omega
                · have hjti : ¬ (j : Int) < (n9 : Int) := by omega
                  have hje : j = rs.length := by have := HN9.out; omega
                  have HCV := Lib.hid (show IsR kcells (hcol rs k2) u13 w7 by rw [hje, List.take_length] at how3; exact isR_own (m := 3) (fun _ => rfl) (by omega) how3)
                  have HCI := Lib.hid (show ∀ x ∈ hcol rs k2, x.inInt from hcol_P (by unfold CV.inInt nul; dsimp only; omega) (fun r hr => (HRS6.out.2 r hr).ints) k2)
                  have HCL := Lib.hid (show (hcol rs k2).length ≤ 1000000 by rw [hcol_len]; have := HN9.out; omega)
                  have HSN := Lib.hid (show (hstats (hpks l0) rs (k2 + 1)).flatMap gcells = (hstats (hpks l0) rs k2).flatMap gcells ++ gcells (gofE kd (hcol rs k2)) by rw [hstats_snoc, List.flatMap_append]; unfold hstat; rw [HKD.out]; simp)
                  have kc : w7.cell? ⟨(adc.add (k2 * 2)).block, (adc.add (k2 * 2)).off + 1, none⟩ = some (.int .i64 kd) := by
                    have h := (hbw3.cell (by rw [add_block]; exact HAC.out)).trans HKC.out
                    rw [← add_add] at h
                    exact h
                  have HOF := rof17_any kd (hcol rs k2) u13 w7 HCV.out HCI.out HCL.out
                  obtain ⟨G, hG⟩ : ∃ G, G = gofE kd (hcol rs k2) := ⟨_, rfl⟩
                  rw [← hG] at HOF HSN
                  obtain ⟨gc, gh, ⟨mb, mn, ms⟩, ⟨xb, xn, xs⟩, gsm, gov⟩ := G
                  have HOFH := Lib.hid HOF
                  clear hG HOF how3 hbw3 hje
                  go_wp2_with fail
                  refine HOFH.out.mono ?_
                  rintro e w8 ⟨rfl, hb8⟩
                  have hb6 := below_then HBW3.out hb8
                  have HO8 := Lib.hid (own_below HOWN2.out hb6)
                  have HB8 := Lib.hid (below_then HBW2.out hb6)
                  have hz8 : w5.heap.size ≤ w8.heap.size := HB8.out.size
                  have hk9 : k2 ≤ 1000000000 := by have := HKL.out; have := HL6.out; omega
                  clear hb8 hb6 kc
                  unfold gsv gcells
                  dsimp only
                  go_wp2_with (at_builtin; refine wpList_pushG HGE.out rfl _ _ rfl w5.heap.size _ _ _ (gcells ⟨gc, gh, ⟨mb, mn, ms⟩, ⟨xb, xn, xs⟩, gsm, gov⟩) w8 w5 _ rfl rfl rfl rfl rfl (gcells_one _) HO8.out HB8.out hz8 hk9 hgb ?_)
                  intro v9 w9 ho9 hb9 _ _
                  have HREL := Lib.hid (show HStatRel (hpks l0) rs nc w5 v9 (.int .i64 ((k2 + 1 : Nat) : Int)) w9 from ⟨k2 + 1, hlt, rfl, by rw [HSN.out]; exact ho9, hb9⟩)
                  clear ho9 hb9
                  go_wp2
                  go_roundw
                  case rel => exact HREL.out
                  case measure => simp [intOf]; omega
            · have hlti : ¬ (k2 : Int) < (nc : Int) := by omega
              obtain rfl : k2 = nc := by omega
              have hs6 : IsR gcells (hstats (hpks l0) rs k2) u11 w6 := isR_own (m := 10) (f := gcells) (fun _ => rfl) (by omega) how2
              have HB6 := Lib.hid (below_then HB5.out hbw2)
              have HU6 := Lib.hid (Utf8Tabs_below HU.out HB6.out)
              have HP6 := Lib.hid (HP5.out.below hbw2)
              have HRS6 := Lib.hid (HRS5.out.below hbw2)
              have hso := hstats_ok (ks := hpks l0) (fun r hr => (HRS6.out.2 r hr).ints) (fun r hr => (HRS6.out.2 r hr).sizes) (by have := HN9.out; omega) k2
              have hkn : (hpks l0).length = k2 := by unfold hpks; rw [List.length_map]; exact HCN.out
              have hwi : ∀ r ∈ rs, (0 ≤ hpevalE m r.1 ∧ hpevalE m r.1 ≤ 2) ∧ (hpoutE m (hstats (hpks l0) rs k2)).at_ (hpevalE m r.1) = true := fun r hr =>
                hpholds HOK.out.1 HOK.out.2.2 (fun c hc => hstats_within hr (by omega))
              have hsl : (hstats (hpks l0) rs k2).length = k2 := hstats_len _ _ _
              have hk6 : k2 ≤ 6 := by have := HL6.out; have := HCN.out; omega
              obtain ⟨S, hS⟩ : ∃ S, S = hstats (hpks l0) rs k2 := ⟨_, rfl⟩
              rw [← hS] at hs6 hso hwi hsl
              have hout : ∀ X, Below w6.heap.size w6 X → Calls Tryd.prog 18 #[u, u11] X fun e w' => e = .returned (t3v (hpoutE m S)) ∧ Below X.heap.size X w' := fun X hX =>
                hpouts_any (hpks l0) m S u u11 X (Utf8Tabs_below HU6.out hX) (HP6.out.below hX) (hs6.below hX) hso (fun x hx => hstats_cnt x (by rw [← hS]; exact hx)) HOK.out.2.2 HOK.out.1 HOK.out.2.1 (by omega) (by omega)
              have hmat : ∀ X, Below w6.heap.size w6 X → Calls Tryd.prog 19 #[u, u11] X fun e w' => e = .returned (.bool (hpoutE m S).yes) ∧ Below X.heap.size X w' := fun X hX =>
                hpmatch_any (hpks l0) m S u u11 X (Utf8Tabs_below HU6.out hX) (HP6.out.below hX) (hs6.below hX) hso (fun x hx => hstats_cnt x (by rw [← hS]; exact hx)) HOK.out.2.2 HOK.out.1 HOK.out.2.1 (by omega) (by omega)
              obtain ⟨T, hT⟩ : ∃ T, T = hpoutE m S := ⟨_, rfl⟩
              rw [← hT] at hout hmat hwi
              have HOUT := Lib.hid (hout w6 (Below.refl _ _))
              have HMAT := Lib.hid hmat
              have HWI := Lib.hid hwi
              have HKN := Lib.hid hkn
              have hn9i : (n9 : Int) ≤ 9223372036854775807 := by omega
              clear how2 hbw2 hs6 hso hwi hsl hS hout hmat hT hkn
              go_wp2_with fail
              refine HOUT.out.mono ?_
              rintro e w7 ⟨rfl, hb7⟩
              obtain ⟨g2, hg2⟩ : ∃ g2, g2 = w7.heap.size := ⟨_, rfl⟩
              obtain ⟨w8, hw8⟩ : ∃ x, x = w7.alloc (.cells #[.bool T.no, .bool T.un, .bool T.yes] 44) := ⟨_, rfl⟩
              have HRT := Lib.hid (show Row w8 g2 44 [.bool T.no, .bool T.un, .bool T.yes] by rw [hw8, hg2]; exact heap_alloc_new w7 _)
              have HB68 := Lib.hid (below_then hb7 (show Below w7.heap.size w7 w8 by rw [hw8]; exact (Below.refl _ _).alloc (Nat.le_refl _) _))
              clear HOUT
              unfold t3v
              go_wp2
              rw [← hw8, ← hg2]
              clear hw8 hg2 hb7
              go_loopw [16] (HDoneRel n9 w8) (fun i _ => n9 - (intOf i).toNat)
              case atStart => exact ⟨0, Nat.zero_le _, rfl, Below.refl _ _⟩
              case round =>
                obtain ⟨j, hj, rfl, hbw⟩ := hrel
                have hb6r := below_then HB68.out hbw
                have HBR := Lib.hid hb6r
                have HB8R := Lib.hid hbw
                obtain ⟨w9, rfl⟩ : ∃ x, x = wr := ⟨_, rfl⟩
                by_cases hjt : j < n9
                · have hjti : (j : Int) < (n9 : Int) := by omega
                  have hjl : j < rs.length := by have := HN9.out; omega
                  obtain ⟨ad, rfl, had, hcell⟩ := ((HRS6.out.below hb6r).1).at (m := 1) (fun _ => rfl) (by omega) hjl
                  obtain ⟨⟨r, rv⟩, hr⟩ : ∃ x, x = rs[j] := ⟨_, rfl⟩
                  have hrow := (HRS6.out.below hb6r).2 _ (List.getElem_mem hjl)
                  have hz := HZ.out _ (List.getElem_mem hjl)
                  have hw := HWI.out _ (List.getElem_mem hjl)
                  rw [← hr] at hrow hcell hz hw
                  dsimp only at hz hw hrow
                  have c0 : w9.cell? (ad.add j) = some rv := by have h := hcell 0 (by omega); rw [Nat.mul_one, Nat.add_zero] at h; exact h
                  have hlen : l0.length = r.length := by
                    rcases hrowH_or l0 r with ⟨_, h⟩ | h
                    · exact h
                    · rw [h] at hz; cases hz
                  have hev := hpeval_any (hpks l0) m r u rv w9 (Utf8Tabs_below HU6.out hb6r) (HP6.out.below hb6r) hrow HOK.out.2.2 HOK.out.1 HOK.out.2.1 (by rw [HKN.out, ← hlen]; exact HCN.out) (by rw [← hlen]; have := HL6.out; omega)
                  obtain ⟨E, hE⟩ : ∃ E, E = hpevalE m r := ⟨_, rfl⟩
                  rw [← hE] at hev hw
                  have HEV := Lib.hid hev
                  obtain ⟨hw1, hw2⟩ := hw
                  clear hcell hrow hz hr hlen hjl had hev hE hbw hb6r
                  rcases (by omega : E = 0 ∨ E = 1 ∨ E = 2) with rfl | rfl | rfl
                  · have ht : T.no = true := hw2
                    go_wp2_with fail
                    refine HEV.out.mono ?_
                    rintro e w10 ⟨rfl, hb10⟩
                    have o0 : w10.cell? ⟨g2, 0, none⟩ = some (.bool true) := by rw [← ht]; exact (((HRT.out.below HB8R.out HRT.out.lt).below hb10 (HRT.out.below HB8R.out HRT.out.lt).lt)).cell 0
                    have HREL := Lib.hid (show HDoneRel n9 w8 (.int .i64 ((j + 1 : Nat) : Int)) w10 from ⟨j + 1, hjt, rfl, below_then HB8R.out hb10⟩)
                    clear hb10 ht hw1 hw2 c0
                    go_wp2
                    go_roundw
                    case rel => exact HREL.out
                    case measure => simp [intOf]; omega
                  · have ht : T.un = true := hw2
                    go_wp2_with fail
                    refine HEV.out.mono ?_
                    rintro e w10 ⟨rfl, hb10⟩
                    have o0 : w10.cell? ⟨g2, 1, none⟩ = some (.bool true) := by rw [← ht]; exact (((HRT.out.below HB8R.out HRT.out.lt).below hb10 (HRT.out.below HB8R.out HRT.out.lt).lt)).cell 1
                    have HREL := Lib.hid (show HDoneRel n9 w8 (.int .i64 ((j + 1 : Nat) : Int)) w10 from ⟨j + 1, hjt, rfl, below_then HB8R.out hb10⟩)
                    clear hb10 ht hw1 hw2 c0
                    go_wp2
                    go_roundw
                    case rel => exact HREL.out
                    case measure => simp [intOf]; omega
                  · have ht : T.yes = true := hw2
                    go_wp2_with fail
                    refine HEV.out.mono ?_
                    rintro e w10 ⟨rfl, hb10⟩
                    have o0 : w10.cell? ⟨g2, 2, none⟩ = some (.bool true) := by rw [← ht]; exact (((HRT.out.below HB8R.out HRT.out.lt).below hb10 (HRT.out.below HB8R.out HRT.out.lt).lt)).cell 2
                    have hma := HMAT.out w10 (below_then HBR.out hb10)
                    rw [ht] at hma
                    have HMA := Lib.hid hma
                    have HB10 := Lib.hid (below_then HB8R.out hb10)
                    clear hb10 ht hw1 hw2 c0 hma
                    go_wp2_with fail
                    refine HMA.out.mono ?_
                    rintro e w11 ⟨rfl, hb11⟩
                    have HREL := Lib.hid (show HDoneRel n9 w8 (.int .i64 ((j + 1 : Nat) : Int)) w11 from ⟨j + 1, hjt, rfl, below_then HB10.out hb11⟩)
                    clear hb11 o0
                    go_wp2
                    go_roundw
                    case rel => exact HREL.out
                    case measure => simp [intOf]; omega
                · have hjti : ¬ (j : Int) < (n9 : Int) := by omega
                  have HBE := Lib.hid (below_then HB6.out hb6r)
                  clear hbw hb6r
                  go_wp2
                  go_ret
                  exact ⟨rfl, HBE.out⟩
    · rw [hz] at HSCH
      clear hz
      go_enter Tryd.func6, Tryd.ntmps6
      go_wp2_with fail
      refine HSH.out.mono ?_
      rintro e w1 ⟨rfl, hb1⟩
      have HB1 := Lib.hid hb1
      have HU1 := Lib.hid (Utf8Tabs_below HU.out hb1)
      have HP1 := Lib.hid (HP.out.below hb1)
      clear hb1
      go_wp2_with fail
      refine (HF.out w1 HP1.out).mono ?_
      rintro e w2 ⟨⟨u, rfl, hu⟩, rfl⟩
      have HP2 := Lib.hid hu
      clear hu
      go_wp2_with fail
      refine (HMAY.out u w1 HU1.out (HC.out.below HB1.out) HP2.out).mono ?_
      rintro e w3 ⟨rfl, hb3⟩
      have HB3 := Lib.hid (below_then HB1.out hb3)
      have HP3 := Lib.hid (HP2.out.below hb3)
      clear hb3
      go_wp2_with fail
      refine (HSCH.out w3 (HC.out.below HB3.out)).mono ?_
      rintro e w4 ⟨rfl, hb4⟩
      have HB4 := Lib.hid (below_then HB3.out hb4)
      have HP4 := Lib.hid (HP3.out.below hb4)
      clear hb4
      go_wp2
      go_ret
      exact ⟨rfl, HB4.out⟩

set_option maxRecDepth 100000 in
theorem PredHolds_lifted (os : Os) (started : os.Started) (H : Type) (enc : TypeId × Value → H) :
    ReturnsInHanded {} Tryd.checked os 6 .any (fun w args => (Rows.predHoldsSpec.pre enc Tryd.prog Tryd.f6 [] false w args ∧ laidMetH Tryd.prog [("unicode/utf8.acceptRanges", Rows.laid_unicode_utf8_acceptRanges), ("unicode/utf8.first", Rows.laid_unicode_utf8_first)] w) ∧ sizedMet enc Tryd.prog Tryd.f6 (OpenSpec.ofChange Rows.predHoldsSpec) false w args) (Rows.predHoldsSpec.post enc Tryd.prog Tryd.f6 false true false false) := by
  refine returnsInHanded_of_change_and (C := Tryd.checked) (X := fun w _ => laidMetH Tryd.prog [("unicode/utf8.acceptRanges", Rows.laid_unicode_utf8_acceptRanges), ("unicode/utf8.first", Rows.laid_unicode_utf8_first)] w) (fun _ _ _ hh h => h.of_heap hh) own started (by kernel_rfl) Tryd.func6
    (ChangeSpec.witness_shaped (enc := enc) (C := Tryd.checked) (os := os) (X := fun w _ => laidMetH Tryd.prog [("unicode/utf8.acceptRanges", Rows.laid_unicode_utf8_acceptRanges), ("unicode/utf8.first", Rows.laid_unicode_utf8_first)] w) false (World.laidAll Tryd.prog os [("unicode/utf8.acceptRanges", Rows.laid_unicode_utf8_acceptRanges), ("unicode/utf8.first", Rows.laid_unicode_utf8_first)]) #[.slice none 0 0, .slice none 0 0, .slice none 0 0] 8 (World.laidAll_os _ _ _) (World.shaped_of_ZipB (by kernel_rfl) (by kernel_rfl)) (by kernel_rfl) (by kernel_rfl) (by kernel_rfl) (by rw [MakeChecks.laidMetH_plain _ _ _ (by kernel_rfl)]; exact laidMet_laidAll _ (by kernel_rfl) (by kernel_rfl))) ?_
  intro W base args ds gs before hval0 hW _ hsz hL _
  have hT := u8_of hL
  clear hL
  have hval : ∀ (j : Nat) t v, Tryd.f6.params[j]? = some t → args[j]? = some v → Value.okWide Tryd.prog W .any base t v := hval0
  have hW' := hW
  obtain ⟨p, q, hT0, hV, rfl, hfz, hnd⟩ := hW
  have hA : DataW.TrodAll enc Tryd.prog W 0 (fun _ => true) true Tryd.f6.params.toList args.toList ds p := hT0
  rw [Tryd.params6] at hA hval
  obtain ⟨v0, vs0, d0, ds0, p0, q0, hargs, rfl, rfl, h0, r0⟩ := trodAll_cons hA
  obtain ⟨v1, vs1, d1, ds1, p1, q1, rfl, rfl, rfl, h1, r1⟩ := trodAll_cons r0
  obtain ⟨v2, vs2, d2, ds2, p2, q2, rfl, rfl, rfl, h2, r2⟩ := trodAll_cons r1
  obtain ⟨rfl, rfl, rfl⟩ := trodAll_nil r2
  obtain rfl : args = #[v0, v1, v2] := by cases args; simp_all
  obtain ⟨rfl, rfl⟩ := trodVars_none hV
  have hlt0 : ∀ x ∈ p0, x.block < W.heap.size := fun x hx => hW'.lt x (by simp [hx])
  obtain ⟨l0, hl0, hp0, hq0⟩ := open_cols (hval 0 22 v0 rfl rfl) h0 hlt0
  have hlt1 : ∀ x ∈ p1, x.block < W.heap.size := fun x hx => hW'.lt x (by simp [hx])
  have hwt1 : Reached Tryd.prog 23 d1 := fun n hn => by simpa using List.all_eq_true.1 hsz n (DataW.weights_mem_each (j := 1) (by kernel_rfl) rfl n hn)
  obtain ⟨l1, hl1⟩ := open_preds hwt1 (hval 1 23 v1 rfl rfl) h1 hlt1
  have hlt2 : ∀ x ∈ p2, x.block < W.heap.size := fun x hx => hW'.lt x (by simp [hx])
  obtain ⟨l2, hl2⟩ := open_rows (hval 2 27 v2 rfl rfl) h2 hlt2
  clear hT0 hval0
  refine (PredHolds_walk W hT v0 l0 hl0 hp0 hq0 v1 l1 hl1 v2 l2 hl2).mono fun e W' ⟨he, hb⟩ => ?_
  subst he
  exact ⟨_, rfl, law_post laidOut Tryd.underlying4 (by kernel_rfl) (by kernel_rfl) rfl hW' rfl hb⟩

theorem PredHolds_over : Rows.predHoldsRow.holds Tryd.pinned (OpenSpec.ofChange Rows.predHoldsSpec) :=
  OpenClaim.holds_of_wide 6 Tryd.f6 rfl rfl rfl rfl rfl rfl rfl ⟨rfl, rfl, rfl, rfl, rfl⟩ rfl rfl rfl rfl rfl (by kernel_rfl) Tryd.func6 (by kernel_rfl)
    (of_decide_eq_true (by kernel_rfl)) (by unfold Func.isWrapper; first | (rw [if_pos (by decide +kernel)]; kernel_rfl) | (rw [if_neg (by decide +kernel)]; exact ⟨rfl, rfl⟩))
    (fun os started H enc _ => PredHolds_lifted os started H enc)

theorem PredHolds_holds : Rows.PredHoldsCardSaid :=
  Claim7.holds_tied_plain_at .later [] _ true _ _ PredHolds_over (fun _ h => by cases h) (by kernel_rfl) (fun _ h => by cases h) predHolds_row_tie rfl ⟨rfl, rfl⟩ (by kernel_rfl) rfl
    (fun f fn hf hfn => by
      obtain rfl : f = 6 := Option.some.inj ((show Tryd.prog.funcNamed "pilaster/pilasterlaw18.PredHolds" = some 6 by kernel_rfl).symm.trans hf) |>.symm
      obtain rfl : fn = Tryd.f6 := (Option.some.inj (Tryd.func6.symm.trans hfn)).symm
      exact ⟨by kernel_rfl, fun j t ht => stand_ins (by kernel_rfl) ht⟩)
    (by kernel_rfl)
#print axioms PredHolds_holds

end Go.Proofs.YtniniophoocalaaDoor
