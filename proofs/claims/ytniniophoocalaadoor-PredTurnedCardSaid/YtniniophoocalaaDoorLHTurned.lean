
/- The statement PredTurned: for any columns, nodes and row the law answers true. No condition. Written by gen_pred_turned.py. -/

import Derived.StillTailTactics
import Derived.Test.YtniniophoocalaaDoorG7
namespace Go.Proofs.YtniniophoocalaaDoor

open Go.RowKit Go.ChangeShapes Go.WideShapes Go.ChangeAt

theorem hschT_or (l : List CC) : (kscheme l = 0 ∧ l.length ≤ 6) ∨ kscheme l = 20 := by
  unfold kscheme
  split
  · rename_i h; exact .inl ⟨rfl, h.2.1⟩
  · exact .inr rfl
theorem hrowT_or (l : List CC) (r : List CV) : (krow l r = 0 ∧ l.length = r.length) ∨ krow l r = 21 := by
  unfold krow
  split
  · rename_i h; exact .inl ⟨rfl, h.1⟩
  · exact .inr rfl
set_option maxHeartbeats 8000000 in
set_option maxRecDepth 100000 in
theorem PredTurned_few (w : World) (hU : Tryd.U8 w) (v0 : Value) (l0 : List CC) (h0 : IsR ccells l0 v0 w) (hs0 : ∀ x ∈ l0, x.s.size ≤ maxLen) (A : Option Addr) (n c : Nat) (l1 : List HN) (h1 : IsPreds l1 (.slice A n c) w) (v2 : Value) (r : List CV) (h2 : HRow r v2 w) (hn : n ≤ 35) :
    Calls Tryd.prog 7 #[v0, .slice A n c, v2] w fun e w' => e = .returned (.bool true) ∧ Below w.heap.size w w' := by
  have hc9 : (c : Int) ≤ 9223372036854775807 := by obtain ⟨_, _, h3, h4, _⟩ := h1.1.parts; unfold maxLen at h4; omega
  obtain ⟨m, hm⟩ : ∃ m, m = l1 := ⟨_, rfl⟩
  have HP := Lib.hid (show IsPreds m (.slice A n c) w by rw [hm]; exact h1)
  have hni : ¬ (35 : Int) < (n : Int) := by omega
  clear hm
  have HU := Lib.hid hU
  have HC := Lib.hid h0
  have HR := Lib.hid h2
  obtain ⟨eb, heb, hE⟩ := elemHN
  have HEB := Lib.hid hE
  have HKM := Lib.hid HP.out.1.parts.1
  have HMAY := Lib.hid (fun X (hX : Tryd.U8 X) (hc : IsR ccells l0 v0 X) (hp : IsPreds m (.slice A n c) X) => rmay18_any l0 m v0 (.slice A n c) X hX hc hp)
  have HSCH := Lib.hid (fun X (hc : IsR ccells l0 v0 X) => rschema12_own l0 v0 X hc hs0)
  have HROW := Lib.hid (fun X (hX : Tryd.U8 X) (hc : IsR ccells l0 v0 X) (hr : HRow r v2 X) hb => rrow12_own l0 r v0 v2 X hX hc hr.row hr.sizes hb)
  have HSH := Lib.hid (shown18_any w hU)
  clear hU h0 h1 h2 hs0 hE
  cases hmay : hpmayE (hpks l0) m with
  | false =>
    rw [hmay] at HMAY
    clear hmay
    go_enter Tryd.func7, Tryd.ntmps7
    go_wp2_with fail
    refine HSH.out.mono ?_
    rintro e w1 ⟨rfl, hb1⟩
    have HB1 := Lib.hid hb1
    have HU1 := Lib.hid (Utf8Tabs_below HU.out hb1)
    have HC1 := Lib.hid (HC.out.below hb1)
    have HP1 := Lib.hid (HP.out.below hb1)
    have HR1 := Lib.hid (HR.out.below hb1)
    clear hb1
    go_wp2_with fail
    refine (HMAY.out w1 HU1.out HC1.out HP1.out).mono ?_
    rintro e w3 ⟨rfl, hb3⟩
    have HB3 := Lib.hid (below_then HB1.out hb3)
    have HU3 := Lib.hid (Utf8Tabs_below HU1.out hb3)
    have HC3 := Lib.hid (HC1.out.below hb3)
    have HP3 := Lib.hid (HP1.out.below hb3)
    have HR3 := Lib.hid (HR1.out.below hb3)
    clear hb3
    go_wp2
    go_ret
    exact ⟨rfl, HB3.out⟩
  | true =>
    rw [hmay] at HMAY
    have HOK := Lib.hid (hpmay_ok hmay)
    clear hmay
    rcases hschT_or l0 with ⟨hz, hl6⟩ | hz
    · rw [hz] at HSCH
      have HL6 := Lib.hid hl6
      clear hz hl6
      rcases hrowT_or l0 r with ⟨hz, hlen⟩ | hz
      · rw [hz] at HROW
        have HRL := Lib.hid (show r.length = (hpks l0).length by unfold hpks; rw [List.length_map]; exact hlen.symm)
        have HRB := Lib.hid (show r.length ≤ 1000000 by have := HL6.out; omega)
        clear hz hlen
        have hk1 : 1 ≤ n := by have h := HOK.out.1; rw [HKM.out] at h; exact h
        have hk1i : (1 : Int) ≤ (n : Int) := by omega
        obtain ⟨E, hE⟩ : ∃ E, E = hpevalE m r := ⟨_, rfl⟩
        have HEB3 := Lib.hid (show 0 ≤ E ∧ E ≤ 2 by rw [hE]; exact heval_in)
        have HE := Lib.hid hE
        have HT := Lib.hid (show (((n : Int) - 1) : Int) = (m.length : Int) - 1 by have := HKM.out; omega)
        have HT1 := Lib.hid (show ((n : Int) : Int) = (m.length : Int) by have := HKM.out; omega)
        have HTB := Lib.hid (show 0 ≤ (((n : Int) - 1) : Int) ∧ (((n : Int) - 1) : Int) ≤ 34 ∧ 0 ≤ ((n : Int) : Int) ∧ ((n : Int) : Int) ≤ 35 by omega)
        have HIN1 := Lib.hid (show ∀ q ∈ [((n : Int) - 1)], inInt q from fun q hq => by rw [List.mem_singleton.1 hq]; have := HTB.out; unfold inInt; omega)
        have HIN2 := Lib.hid (show ∀ q ∈ [((n : Int) - 1), (n : Int)], inInt q from fun q hq => by simp only [List.mem_cons, List.not_mem_nil, or_false] at hq; have := HTB.out; unfold inInt; omega)
        have HIN3 := Lib.hid (show ∀ q ∈ [((n : Int) - 1), ((n : Int) - 1)], inInt q from fun q hq => by simp only [List.mem_cons, List.not_mem_nil, or_false] at hq; have := HTB.out; unfold inInt; omega)
        clear hE
        go_enter Tryd.func7, Tryd.ntmps7
        go_wp2_with fail
        refine HSH.out.mono ?_
        rintro e w1 ⟨rfl, hb1⟩
        have HB1 := Lib.hid hb1
        have HU1 := Lib.hid (Utf8Tabs_below HU.out hb1)
        have HC1 := Lib.hid (HC.out.below hb1)
        have HP1 := Lib.hid (HP.out.below hb1)
        have HR1 := Lib.hid (HR.out.below hb1)
        clear hb1
        go_wp2_with fail
        refine (HMAY.out w1 HU1.out HC1.out HP1.out).mono ?_
        rintro e w3 ⟨rfl, hb3⟩
        have HB3 := Lib.hid (below_then HB1.out hb3)
        have HU3 := Lib.hid (Utf8Tabs_below HU1.out hb3)
        have HC3 := Lib.hid (HC1.out.below hb3)
        have HP3 := Lib.hid (HP1.out.below hb3)
        have HR3 := Lib.hid (HR1.out.below hb3)
        clear hb3
        go_wp2_with fail
        refine (HSCH.out w3 HC3.out).mono ?_
        rintro e w4 ⟨rfl, hb4⟩
        have HB4 := Lib.hid (below_then HB3.out hb4)
        have HU4 := Lib.hid (Utf8Tabs_below HU3.out hb4)
        have HC4 := Lib.hid (HC3.out.below hb4)
        have HP4 := Lib.hid (HP3.out.below hb4)
        have HR4 := Lib.hid (HR3.out.below hb4)
        clear hb4
        go_wp2_with fail
        refine (HROW.out w4 HU4.out HC4.out HR4.out (by have := HL6.out; omega)).mono ?_
        rintro e w5 ⟨rfl, hb5⟩
        have HB5 := Lib.hid (below_then HB4.out hb5)
        have HU5 := Lib.hid (Utf8Tabs_below HU4.out hb5)
        have HC5 := Lib.hid (HC4.out.below hb5)
        have HP5 := Lib.hid (HP4.out.below hb5)
        have HR5 := Lib.hid (HR4.out.below hb5)
        clear hb5
        go_wp2_with (at_builtin; refine wpList_copyP HEB.out rfl _ _ rfl m A n c w5 rfl rfl rfl HP5.out (by omega) heb ?_)
        intro v6 w6 ho6 hb6
        have HO6 := Lib.hid ho6
        have HBX := Lib.hid hb6
        clear ho6 hb6
        go_wp2_with (at_builtin; refine wpList_nodes HEB.out rfl _ _ rfl v6 m [hpN 3 [((n : Int) - 1)] (w6.heap.size), hpN 2 [((n : Int) - 1), (n : Int)] (w6.heap.size + 1)] w6 ((w6.alloc (.cells #[.int .i64 ((n : Int) - 1)] 3)).alloc (.cells #[.int .i64 ((n : Int) - 1), .int .i64 (n : Int)] 3)) w5 (w6.heap.size + 2) 2 2 (by simp) rfl rfl rfl rfl HO6.out HBX.out (by exact ((Below.refl _ _).alloc (Nat.le_refl _) _).alloc (by simp) _) HP5.out.2 (fun X hf => hats_two rfl hf (opInt (by omega)) (opInt (by omega)) HIN1.out HIN2.out (by simp) (by simp)) (ones_two _ _ _ _ _ _) (by have := HKM.out; omega) heb ?_)
        intro v7 w7 hp7 hb7
        have HQ7 := Lib.hid hp7
        have HB7 := Lib.hid (below_then HB5.out hb7)
        have HU7 := Lib.hid (Utf8Tabs_below HU5.out hb7)
        have HC7 := Lib.hid (HC5.out.below hb7)
        have HP7 := Lib.hid (HP5.out.below hb7)
        have HR7 := Lib.hid (HR5.out.below hb7)
        clear HO6 HBX hp7 hb7
        go_wp2_with fail
        obtain ⟨b, hb⟩ : ∃ b, b = hpmayE (hpks l0) (m ++ [hpN 3 [((n : Int) - 1)] (w6.heap.size), hpN 2 [((n : Int) - 1), (n : Int)] (w6.heap.size + 1)]) := ⟨_, rfl⟩
        have HM := rmay18_any l0 (m ++ [hpN 3 [((n : Int) - 1)] (w6.heap.size), hpN 2 [((n : Int) - 1), (n : Int)] (w6.heap.size + 1)]) v0 v7 w7 HU7.out HC7.out HQ7.out
        rw [← hb] at HM
        have HMD := Lib.hid HM
        clear HM hb
        refine HMD.out.mono ?_
        rintro e w8 ⟨rfl, hb8⟩
        have HB8 := Lib.hid (below_then HB7.out hb8)
        have HU8 := Lib.hid (Utf8Tabs_below HU7.out hb8)
        have HC8 := Lib.hid (HC7.out.below hb8)
        have HP8 := Lib.hid (HP7.out.below hb8)
        have HR8 := Lib.hid (HR7.out.below hb8)
        clear hb8 HMD HQ7
        cases b with
        | false =>
          go_wp2
          go_ret
          exact ⟨rfl, HB8.out⟩
        | true =>
          go_wp2_with fail
          have HEV9 := hpeval_any (hpks l0) m r (.slice A n c) v2 w8 HU8.out HP8.out HR8.out HOK.out.2.2 HOK.out.1 HOK.out.2.1 HRL.out HRB.out
          rw [← HE.out] at HEV9
          refine HEV9.mono ?_
          rintro e w9 ⟨rfl, hb9⟩
          have HB9 := Lib.hid (below_then HB8.out hb9)
          have HU9 := Lib.hid (Utf8Tabs_below HU8.out hb9)
          have HC9 := Lib.hid (HC8.out.below hb9)
          have HP9 := Lib.hid (HP8.out.below hb9)
          have HR9 := Lib.hid (HR8.out.below hb9)
          clear HEV9 hb9
          go_wp2_with (at_builtin; refine wpList_copyP HEB.out rfl _ _ rfl m A n c w9 rfl rfl rfl HP9.out (by omega) heb ?_)
          intro v10 w10 ho10 hb10
          have HO10 := Lib.hid ho10
          have HBX := Lib.hid hb10
          clear ho10 hb10
          go_wp2_with (at_builtin; refine wpList_nodes HEB.out rfl _ _ rfl v10 m [hpN 3 [((n : Int) - 1)] (w10.heap.size)] w10 (w10.alloc (.cells #[.int .i64 ((n : Int) - 1)] 3)) w9 (w10.heap.size + 1) 1 1 (by simp) rfl rfl rfl rfl HO10.out HBX.out (by exact (Below.refl _ _).alloc (Nat.le_refl _) _) HP9.out.2 (fun X hf => hats_one rfl hf (opInt (by omega)) HIN1.out (by simp)) (ones_one _ _ _) (by have := HKM.out; omega) heb ?_)
          intro v11 w11 hp11 hb11
          have HQ11 := Lib.hid hp11
          have HB11 := Lib.hid (below_then HB9.out hb11)
          have HU11 := Lib.hid (Utf8Tabs_below HU9.out hb11)
          have HC11 := Lib.hid (HC9.out.below hb11)
          have HP11 := Lib.hid (HP9.out.below hb11)
          have HR11 := Lib.hid (HR9.out.below hb11)
          clear HO10 HBX hp11 hb11
          go_wp2_with fail
          have HEV12 := hpeval_any (hpks l0) (m ++ [hpN 3 [((n : Int) - 1)] (w10.heap.size)]) r v11 v2 w11 HU11.out HQ11.out HR11.out (hoks_not HOK.out.2.2 HOK.out.1 HT.out) (by simp) (by simp [HKM.out] <;> omega) HRL.out HRB.out
          rw [hev_not HOK.out.1 HT.out, ← HE.out] at HEV12
          have HEW := Lib.hid HEV12
          clear HEV12
          refine HEW.out.mono ?_
          rintro e w12 ⟨rfl, hb12⟩
          have HB12 := Lib.hid (below_then HB11.out hb12)
          have HU12 := Lib.hid (Utf8Tabs_below HU11.out hb12)
          have HC12 := Lib.hid (HC11.out.below hb12)
          have HP12 := Lib.hid (HP11.out.below hb12)
          have HR12 := Lib.hid (HR11.out.below hb12)
          clear HEW HQ11 hb12
          go_wp2_with (at_builtin; refine wpList_copyP HEB.out rfl _ _ rfl m A n c w12 rfl rfl rfl HP12.out (by omega) heb ?_)
          intro v13 w13 ho13 hb13
          have HO13 := Lib.hid ho13
          have HBX := Lib.hid hb13
          clear ho13 hb13
          go_wp2_with (at_builtin; refine wpList_nodes HEB.out rfl _ _ rfl v13 m [hpN 1 [((n : Int) - 1), ((n : Int) - 1)] (w13.heap.size)] w13 (w13.alloc (.cells #[.int .i64 ((n : Int) - 1), .int .i64 ((n : Int) - 1)] 3)) w12 (w13.heap.size + 1) 1 1 (by simp) rfl rfl rfl rfl HO13.out HBX.out (by exact (Below.refl _ _).alloc (Nat.le_refl _) _) HP12.out.2 (fun X hf => hats_one rfl hf (opInt (by omega)) HIN3.out (by simp)) (ones_one _ _ _) (by have := HKM.out; omega) heb ?_)
          intro v14 w14 hp14 hb14
          have HQ14 := Lib.hid hp14
          have HB14 := Lib.hid (below_then HB12.out hb14)
          have HU14 := Lib.hid (Utf8Tabs_below HU12.out hb14)
          have HC14 := Lib.hid (HC12.out.below hb14)
          have HP14 := Lib.hid (HP12.out.below hb14)
          have HR14 := Lib.hid (HR12.out.below hb14)
          clear HO13 HBX hp14 hb14
          go_wp2_with fail
          have HEV15 := hpeval_any (hpks l0) (m ++ [hpN 1 [((n : Int) - 1), ((n : Int) - 1)] (w13.heap.size)]) r v14 v2 w14 HU14.out HQ14.out HR14.out (hoks_two (.inl rfl) HOK.out.2.2 HOK.out.1 HT.out) (by simp) (by simp [HKM.out] <;> omega) HRL.out HRB.out
          rw [hev_and HOK.out.1 HT.out, ← HE.out] at HEV15
          have HEW := Lib.hid HEV15
          clear HEV15
          refine HEW.out.mono ?_
          rintro e w15 ⟨rfl, hb15⟩
          have HB15 := Lib.hid (below_then HB14.out hb15)
          have HU15 := Lib.hid (Utf8Tabs_below HU14.out hb15)
          have HC15 := Lib.hid (HC14.out.below hb15)
          have HP15 := Lib.hid (HP14.out.below hb15)
          have HR15 := Lib.hid (HR14.out.below hb15)
          clear HEW HQ14 hb15
          go_wp2_with (at_builtin; refine wpList_copyP HEB.out rfl _ _ rfl m A n c w15 rfl rfl rfl HP15.out (by omega) heb ?_)
          intro v16 w16 ho16 hb16
          have HO16 := Lib.hid ho16
          have HBX := Lib.hid hb16
          clear ho16 hb16
          go_wp2_with (at_builtin; refine wpList_nodes HEB.out rfl _ _ rfl v16 m [hpN 2 [((n : Int) - 1), ((n : Int) - 1)] (w16.heap.size)] w16 (w16.alloc (.cells #[.int .i64 ((n : Int) - 1), .int .i64 ((n : Int) - 1)] 3)) w15 (w16.heap.size + 1) 1 1 (by simp) rfl rfl rfl rfl HO16.out HBX.out (by exact (Below.refl _ _).alloc (Nat.le_refl _) _) HP15.out.2 (fun X hf => hats_one rfl hf (opInt (by omega)) HIN3.out (by simp)) (ones_one _ _ _) (by have := HKM.out; omega) heb ?_)
          intro v17 w17 hp17 hb17
          have HQ17 := Lib.hid hp17
          have HB17 := Lib.hid (below_then HB15.out hb17)
          have HU17 := Lib.hid (Utf8Tabs_below HU15.out hb17)
          have HC17 := Lib.hid (HC15.out.below hb17)
          have HP17 := Lib.hid (HP15.out.below hb17)
          have HR17 := Lib.hid (HR15.out.below hb17)
          clear HO16 HBX hp17 hb17
          go_wp2_with fail
          have HEV18 := hpeval_any (hpks l0) (m ++ [hpN 2 [((n : Int) - 1), ((n : Int) - 1)] (w16.heap.size)]) r v17 v2 w17 HU17.out HQ17.out HR17.out (hoks_two (.inr rfl) HOK.out.2.2 HOK.out.1 HT.out) (by simp) (by simp [HKM.out] <;> omega) HRL.out HRB.out
          rw [hev_or HOK.out.1 HT.out, ← HE.out] at HEV18
          have HEW := Lib.hid HEV18
          clear HEV18
          refine HEW.out.mono ?_
          rintro e w18 ⟨rfl, hb18⟩
          have HB18 := Lib.hid (below_then HB17.out hb18)
          have HU18 := Lib.hid (Utf8Tabs_below HU17.out hb18)
          have HC18 := Lib.hid (HC17.out.below hb18)
          have HP18 := Lib.hid (HP17.out.below hb18)
          have HR18 := Lib.hid (HR17.out.below hb18)
          clear HEW HQ17 hb18
          go_wp2_with (at_builtin; refine wpList_copyP HEB.out rfl _ _ rfl m A n c w18 rfl rfl rfl HP18.out (by omega) heb ?_)
          intro v19 w19 ho19 hb19
          have HO19 := Lib.hid ho19
          have HBX := Lib.hid hb19
          clear ho19 hb19
          go_wp2_with (at_builtin; refine wpList_nodes HEB.out rfl _ _ rfl v19 m [hpT, hpN 1 [((n : Int) - 1), (n : Int)] (w19.heap.size)] w19 (w19.alloc (.cells #[.int .i64 ((n : Int) - 1), .int .i64 (n : Int)] 3)) w18 (w19.heap.size + 1) 2 2 (by simp) rfl rfl rfl rfl HO19.out HBX.out (by exact (Below.refl _ _).alloc (Nat.le_refl _) _) HP18.out.2 (fun X hf => hats_yes rfl hf (opInt (by omega)) HIN2.out (by simp)) (ones_yes _ _ _) (by have := HKM.out; omega) heb ?_)
          intro v20 w20 hp20 hb20
          have HQ20 := Lib.hid hp20
          have HB20 := Lib.hid (below_then HB18.out hb20)
          have HU20 := Lib.hid (Utf8Tabs_below HU18.out hb20)
          have HC20 := Lib.hid (HC18.out.below hb20)
          have HP20 := Lib.hid (HP18.out.below hb20)
          have HR20 := Lib.hid (HR18.out.below hb20)
          clear HO19 HBX hp20 hb20
          go_wp2_with fail
          have HEV21 := hpeval_any (hpks l0) (m ++ [hpT, hpN 1 [((n : Int) - 1), (n : Int)] (w19.heap.size)]) r v20 v2 w20 HU20.out HQ20.out HR20.out (hoks_yes HOK.out.2.2 HOK.out.1 HT.out HT1.out) (by simp) (by simp [HKM.out] <;> omega) HRL.out HRB.out
          rw [hev_yes HOK.out.1 HT.out HT1.out, ← HE.out] at HEV21
          have HEW := Lib.hid HEV21
          clear HEV21
          refine HEW.out.mono ?_
          rintro e w21 ⟨rfl, hb21⟩
          have HB21 := Lib.hid (below_then HB20.out hb21)
          have HU21 := Lib.hid (Utf8Tabs_below HU20.out hb21)
          have HC21 := Lib.hid (HC20.out.below hb21)
          have HP21 := Lib.hid (HP20.out.below hb21)
          have HR21 := Lib.hid (HR20.out.below hb21)
          clear HEW HQ20 hb21
          go_wp2_with (at_builtin; refine wpList_copyP HEB.out rfl _ _ rfl m A n c w21 rfl rfl rfl HP21.out (by omega) heb ?_)
          intro v22 w22 ho22 hb22
          have HO22 := Lib.hid ho22
          have HBX := Lib.hid hb22
          clear ho22 hb22
          go_wp2_with (at_builtin; refine wpList_nodes HEB.out rfl _ _ rfl v22 m [hpN 3 [((n : Int) - 1)] (w22.heap.size), hpN 2 [((n : Int) - 1), (n : Int)] (w22.heap.size + 1)] w22 ((w22.alloc (.cells #[.int .i64 ((n : Int) - 1)] 3)).alloc (.cells #[.int .i64 ((n : Int) - 1), .int .i64 (n : Int)] 3)) w21 (w22.heap.size + 2) 2 2 (by simp) rfl rfl rfl rfl HO22.out HBX.out (by exact ((Below.refl _ _).alloc (Nat.le_refl _) _).alloc (by simp) _) HP21.out.2 (fun X hf => hats_two rfl hf (opInt (by omega)) (opInt (by omega)) HIN1.out HIN2.out (by simp) (by simp)) (ones_two _ _ _ _ _ _) (by have := HKM.out; omega) heb ?_)
          intro v23 w23 hp23 hb23
          have HQ23 := Lib.hid hp23
          have HB23 := Lib.hid (below_then HB21.out hb23)
          have HU23 := Lib.hid (Utf8Tabs_below HU21.out hb23)
          have HC23 := Lib.hid (HC21.out.below hb23)
          have HP23 := Lib.hid (HP21.out.below hb23)
          have HR23 := Lib.hid (HR21.out.below hb23)
          clear HO22 HBX hp23 hb23
          go_wp2_with fail
          have HEV24 := hpeval_any (hpks l0) (m ++ [hpN 3 [((n : Int) - 1)] (w22.heap.size), hpN 2 [((n : Int) - 1), (n : Int)] (w22.heap.size + 1)]) r v23 v2 w23 HU23.out HQ23.out HR23.out (hoks_either HOK.out.2.2 HOK.out.1 HT.out HT1.out) (by simp) (by simp [HKM.out] <;> omega) HRL.out HRB.out
          rw [hev_either HOK.out.1 HT.out HT1.out, ← HE.out] at HEV24
          have HEW := Lib.hid HEV24
          clear HEV24
          refine HEW.out.mono ?_
          rintro e w24 ⟨rfl, hb24⟩
          have HB24 := Lib.hid (below_then HB23.out hb24)
          have HU24 := Lib.hid (Utf8Tabs_below HU23.out hb24)
          have HC24 := Lib.hid (HC23.out.below hb24)
          have HP24 := Lib.hid (HP23.out.below hb24)
          have HR24 := Lib.hid (HR23.out.below hb24)
          clear HEW HQ23 hb24
          have HEI := HEB3.out
          rcases (by omega : E = 0 ∨ E = 1 ∨ E = 2) with hE | hE | hE
          all_goals
            rw [hE]
            go_wp2
            go_ret
            exact ⟨rfl, HB24.out⟩
      · rw [hz] at HROW
        clear hz
        go_enter Tryd.func7, Tryd.ntmps7
        go_wp2_with fail
        refine HSH.out.mono ?_
        rintro e w1 ⟨rfl, hb1⟩
        have HB1 := Lib.hid hb1
        have HU1 := Lib.hid (Utf8Tabs_below HU.out hb1)
        have HC1 := Lib.hid (HC.out.below hb1)
        have HP1 := Lib.hid (HP.out.below hb1)
        have HR1 := Lib.hid (HR.out.below hb1)
        clear hb1
        go_wp2_with fail
        refine (HMAY.out w1 HU1.out HC1.out HP1.out).mono ?_
        rintro e w3 ⟨rfl, hb3⟩
        have HB3 := Lib.hid (below_then HB1.out hb3)
        have HU3 := Lib.hid (Utf8Tabs_below HU1.out hb3)
        have HC3 := Lib.hid (HC1.out.below hb3)
        have HP3 := Lib.hid (HP1.out.below hb3)
        have HR3 := Lib.hid (HR1.out.below hb3)
        clear hb3
        go_wp2_with fail
        refine (HSCH.out w3 HC3.out).mono ?_
        rintro e w4 ⟨rfl, hb4⟩
        have HB4 := Lib.hid (below_then HB3.out hb4)
        have HU4 := Lib.hid (Utf8Tabs_below HU3.out hb4)
        have HC4 := Lib.hid (HC3.out.below hb4)
        have HP4 := Lib.hid (HP3.out.below hb4)
        have HR4 := Lib.hid (HR3.out.below hb4)
        clear hb4
        go_wp2_with fail
        refine (HROW.out w4 HU4.out HC4.out HR4.out (by have := HL6.out; omega)).mono ?_
        rintro e w5 ⟨rfl, hb5⟩
        have HB5 := Lib.hid (below_then HB4.out hb5)
        have HU5 := Lib.hid (Utf8Tabs_below HU4.out hb5)
        have HC5 := Lib.hid (HC4.out.below hb5)
        have HP5 := Lib.hid (HP4.out.below hb5)
        have HR5 := Lib.hid (HR4.out.below hb5)
        clear hb5
        go_wp2
        go_ret
        exact ⟨rfl, HB5.out⟩
    · rw [hz] at HSCH
      clear hz
      go_enter Tryd.func7, Tryd.ntmps7
      go_wp2_with fail
      refine HSH.out.mono ?_
      rintro e w1 ⟨rfl, hb1⟩
      have HB1 := Lib.hid hb1
      have HU1 := Lib.hid (Utf8Tabs_below HU.out hb1)
      have HC1 := Lib.hid (HC.out.below hb1)
      have HP1 := Lib.hid (HP.out.below hb1)
      have HR1 := Lib.hid (HR.out.below hb1)
      clear hb1
      go_wp2_with fail
      refine (HMAY.out w1 HU1.out HC1.out HP1.out).mono ?_
      rintro e w3 ⟨rfl, hb3⟩
      have HB3 := Lib.hid (below_then HB1.out hb3)
      have HU3 := Lib.hid (Utf8Tabs_below HU1.out hb3)
      have HC3 := Lib.hid (HC1.out.below hb3)
      have HP3 := Lib.hid (HP1.out.below hb3)
      have HR3 := Lib.hid (HR1.out.below hb3)
      clear hb3
      go_wp2_with fail
      refine (HSCH.out w3 HC3.out).mono ?_
      rintro e w4 ⟨rfl, hb4⟩
      have HB4 := Lib.hid (below_then HB3.out hb4)
      have HU4 := Lib.hid (Utf8Tabs_below HU3.out hb4)
      have HC4 := Lib.hid (HC3.out.below hb4)
      have HP4 := Lib.hid (HP3.out.below hb4)
      have HR4 := Lib.hid (HR3.out.below hb4)
      clear hb4
      go_wp2
      go_ret
      exact ⟨rfl, HB4.out⟩
set_option maxHeartbeats 8000000 in
set_option maxRecDepth 100000 in
theorem PredTurned_many (w : World) (hU : Tryd.U8 w) (v0 : Value) (l0 : List CC) (h0 : IsR ccells l0 v0 w) (hs0 : ∀ x ∈ l0, x.s.size ≤ maxLen) (A : Option Addr) (n c : Nat) (l1 : List HN) (h1 : IsPreds l1 (.slice A n c) w) (v2 : Value) (r : List CV) (h2 : HRow r v2 w) (hn : 35 < n) :
    Calls Tryd.prog 7 #[v0, .slice A n c, v2] w fun e w' => e = .returned (.bool true) ∧ Below w.heap.size w w' := by
  have hc9 : (c : Int) ≤ 9223372036854775807 := by obtain ⟨_, _, h3, h4, _⟩ := h1.1.parts; unfold maxLen at h4; omega
  obtain ⟨m, hm⟩ : ∃ m, m = l1.take 35 := ⟨_, rfl⟩
  have HP := Lib.hid (show IsPreds m (.slice A 35 c) w by rw [hm]; exact hpreds_take h1 (by omega))
  have hni : (35 : Int) < (n : Int) := by omega
  have hn9 : (n : Int) ≤ 9223372036854775807 := by obtain ⟨_, _, h3, h4, _⟩ := h1.1.parts; unfold maxLen at h4; omega
  have hnc := h1.1.parts.2.2.1
  clear hm
  have HU := Lib.hid hU
  have HC := Lib.hid h0
  have HR := Lib.hid h2
  obtain ⟨eb, heb, hE⟩ := elemHN
  have HEB := Lib.hid hE
  have HKM := Lib.hid HP.out.1.parts.1
  have HMAY := Lib.hid (fun X (hX : Tryd.U8 X) (hc : IsR ccells l0 v0 X) (hp : IsPreds m (.slice A 35 c) X) => rmay18_any l0 m v0 (.slice A 35 c) X hX hc hp)
  have HSCH := Lib.hid (fun X (hc : IsR ccells l0 v0 X) => rschema12_own l0 v0 X hc hs0)
  have HROW := Lib.hid (fun X (hX : Tryd.U8 X) (hc : IsR ccells l0 v0 X) (hr : HRow r v2 X) hb => rrow12_own l0 r v0 v2 X hX hc hr.row hr.sizes hb)
  have HSH := Lib.hid (shown18_any w hU)
  clear hU h0 h1 h2 hs0 hE
  cases hmay : hpmayE (hpks l0) m with
  | false =>
    rw [hmay] at HMAY
    clear hmay
    go_enter Tryd.func7, Tryd.ntmps7
    go_wp2_with fail
    refine HSH.out.mono ?_
    rintro e w1 ⟨rfl, hb1⟩
    have HB1 := Lib.hid hb1
    have HU1 := Lib.hid (Utf8Tabs_below HU.out hb1)
    have HC1 := Lib.hid (HC.out.below hb1)
    have HP1 := Lib.hid (HP.out.below hb1)
    have HR1 := Lib.hid (HR.out.below hb1)
    clear hb1
    go_wp2_with fail
    refine (HMAY.out w1 HU1.out HC1.out HP1.out).mono ?_
    rintro e w3 ⟨rfl, hb3⟩
    have HB3 := Lib.hid (below_then HB1.out hb3)
    have HU3 := Lib.hid (Utf8Tabs_below HU1.out hb3)
    have HC3 := Lib.hid (HC1.out.below hb3)
    have HP3 := Lib.hid (HP1.out.below hb3)
    have HR3 := Lib.hid (HR1.out.below hb3)
    clear hb3
    go_wp2
    go_ret
    exact ⟨rfl, HB3.out⟩
  | true =>
    rw [hmay] at HMAY
    have HOK := Lib.hid (hpmay_ok hmay)
    clear hmay
    rcases hschT_or l0 with ⟨hz, hl6⟩ | hz
    · rw [hz] at HSCH
      have HL6 := Lib.hid hl6
      clear hz hl6
      rcases hrowT_or l0 r with ⟨hz, hlen⟩ | hz
      · rw [hz] at HROW
        have HRL := Lib.hid (show r.length = (hpks l0).length by unfold hpks; rw [List.length_map]; exact hlen.symm)
        have HRB := Lib.hid (show r.length ≤ 1000000 by have := HL6.out; omega)
        clear hz hlen
        have hk1 : 1 ≤ 35 := by have h := HOK.out.1; rw [HKM.out] at h; exact h
        have hk1i : (1 : Int) ≤ (35 : Int) := by omega
        obtain ⟨E, hE⟩ : ∃ E, E = hpevalE m r := ⟨_, rfl⟩
        have HEB3 := Lib.hid (show 0 ≤ E ∧ E ≤ 2 by rw [hE]; exact heval_in)
        have HE := Lib.hid hE
        have HT := Lib.hid (show (34 : Int) = (m.length : Int) - 1 by have := HKM.out; omega)
        have HT1 := Lib.hid (show (35 : Int) = (m.length : Int) by have := HKM.out; omega)
        have HTB := Lib.hid (show 0 ≤ (34 : Int) ∧ (34 : Int) ≤ 34 ∧ 0 ≤ (35 : Int) ∧ (35 : Int) ≤ 35 by omega)
        have HIN1 := Lib.hid (show ∀ q ∈ [34], inInt q from fun q hq => by rw [List.mem_singleton.1 hq]; have := HTB.out; unfold inInt; omega)
        have HIN2 := Lib.hid (show ∀ q ∈ [34, 35], inInt q from fun q hq => by simp only [List.mem_cons, List.not_mem_nil, or_false] at hq; have := HTB.out; unfold inInt; omega)
        have HIN3 := Lib.hid (show ∀ q ∈ [34, 34], inInt q from fun q hq => by simp only [List.mem_cons, List.not_mem_nil, or_false] at hq; have := HTB.out; unfold inInt; omega)
        clear hE
        go_enter Tryd.func7, Tryd.ntmps7
        go_wp2_with fail
        refine HSH.out.mono ?_
        rintro e w1 ⟨rfl, hb1⟩
        have HB1 := Lib.hid hb1
        have HU1 := Lib.hid (Utf8Tabs_below HU.out hb1)
        have HC1 := Lib.hid (HC.out.below hb1)
        have HP1 := Lib.hid (HP.out.below hb1)
        have HR1 := Lib.hid (HR.out.below hb1)
        clear hb1
        go_wp2_with fail
        refine (HMAY.out w1 HU1.out HC1.out HP1.out).mono ?_
        rintro e w3 ⟨rfl, hb3⟩
        have HB3 := Lib.hid (below_then HB1.out hb3)
        have HU3 := Lib.hid (Utf8Tabs_below HU1.out hb3)
        have HC3 := Lib.hid (HC1.out.below hb3)
        have HP3 := Lib.hid (HP1.out.below hb3)
        have HR3 := Lib.hid (HR1.out.below hb3)
        clear hb3
        go_wp2_with fail
        refine (HSCH.out w3 HC3.out).mono ?_
        rintro e w4 ⟨rfl, hb4⟩
        have HB4 := Lib.hid (below_then HB3.out hb4)
        have HU4 := Lib.hid (Utf8Tabs_below HU3.out hb4)
        have HC4 := Lib.hid (HC3.out.below hb4)
        have HP4 := Lib.hid (HP3.out.below hb4)
        have HR4 := Lib.hid (HR3.out.below hb4)
        clear hb4
        go_wp2_with fail
        refine (HROW.out w4 HU4.out HC4.out HR4.out (by have := HL6.out; omega)).mono ?_
        rintro e w5 ⟨rfl, hb5⟩
        have HB5 := Lib.hid (below_then HB4.out hb5)
        have HU5 := Lib.hid (Utf8Tabs_below HU4.out hb5)
        have HC5 := Lib.hid (HC4.out.below hb5)
        have HP5 := Lib.hid (HP4.out.below hb5)
        have HR5 := Lib.hid (HR4.out.below hb5)
        clear hb5
        go_wp2_with (at_builtin; refine wpList_copyP HEB.out rfl _ _ rfl m A 35 c w5 rfl rfl rfl HP5.out (by omega) heb ?_)
        intro v6 w6 ho6 hb6
        have HO6 := Lib.hid ho6
        have HBX := Lib.hid hb6
        clear ho6 hb6
        go_wp2_with (at_builtin; refine wpList_nodes HEB.out rfl _ _ rfl v6 m [hpN 3 [34] (w6.heap.size), hpN 2 [34, 35] (w6.heap.size + 1)] w6 ((w6.alloc (.cells #[.int .i64 34] 3)).alloc (.cells #[.int .i64 34, .int .i64 35] 3)) w5 (w6.heap.size + 2) 2 2 (by simp) rfl rfl rfl rfl HO6.out HBX.out (by exact ((Below.refl _ _).alloc (Nat.le_refl _) _).alloc (by simp) _) HP5.out.2 (fun X hf => hats_two rfl hf (opInt (by omega)) (opInt (by omega)) HIN1.out HIN2.out (by simp) (by simp)) (ones_two _ _ _ _ _ _) (by have := HKM.out; omega) heb ?_)
        intro v7 w7 hp7 hb7
        have HQ7 := Lib.hid hp7
        have HB7 := Lib.hid (below_then HB5.out hb7)
        have HU7 := Lib.hid (Utf8Tabs_below HU5.out hb7)
        have HC7 := Lib.hid (HC5.out.below hb7)
        have HP7 := Lib.hid (HP5.out.below hb7)
        have HR7 := Lib.hid (HR5.out.below hb7)
        clear HO6 HBX hp7 hb7
        go_wp2_with fail
        obtain ⟨b, hb⟩ : ∃ b, b = hpmayE (hpks l0) (m ++ [hpN 3 [34] (w6.heap.size), hpN 2 [34, 35] (w6.heap.size + 1)]) := ⟨_, rfl⟩
        have HM := rmay18_any l0 (m ++ [hpN 3 [34] (w6.heap.size), hpN 2 [34, 35] (w6.heap.size + 1)]) v0 v7 w7 HU7.out HC7.out HQ7.out
        rw [← hb] at HM
        have HMD := Lib.hid HM
        clear HM hb
        refine HMD.out.mono ?_
        rintro e w8 ⟨rfl, hb8⟩
        have HB8 := Lib.hid (below_then HB7.out hb8)
        have HU8 := Lib.hid (Utf8Tabs_below HU7.out hb8)
        have HC8 := Lib.hid (HC7.out.below hb8)
        have HP8 := Lib.hid (HP7.out.below hb8)
        have HR8 := Lib.hid (HR7.out.below hb8)
        clear hb8 HMD HQ7
        cases b with
        | false =>
          go_wp2
          go_ret
          exact ⟨rfl, HB8.out⟩
        | true =>
          go_wp2_with fail
          have HEV9 := hpeval_any (hpks l0) m r (.slice A 35 c) v2 w8 HU8.out HP8.out HR8.out HOK.out.2.2 HOK.out.1 HOK.out.2.1 HRL.out HRB.out
          rw [← HE.out] at HEV9
          refine HEV9.mono ?_
          rintro e w9 ⟨rfl, hb9⟩
          have HB9 := Lib.hid (below_then HB8.out hb9)
          have HU9 := Lib.hid (Utf8Tabs_below HU8.out hb9)
          have HC9 := Lib.hid (HC8.out.below hb9)
          have HP9 := Lib.hid (HP8.out.below hb9)
          have HR9 := Lib.hid (HR8.out.below hb9)
          clear HEV9 hb9
          go_wp2_with (at_builtin; refine wpList_copyP HEB.out rfl _ _ rfl m A 35 c w9 rfl rfl rfl HP9.out (by omega) heb ?_)
          intro v10 w10 ho10 hb10
          have HO10 := Lib.hid ho10
          have HBX := Lib.hid hb10
          clear ho10 hb10
          go_wp2_with (at_builtin; refine wpList_nodes HEB.out rfl _ _ rfl v10 m [hpN 3 [34] (w10.heap.size)] w10 (w10.alloc (.cells #[.int .i64 34] 3)) w9 (w10.heap.size + 1) 1 1 (by simp) rfl rfl rfl rfl HO10.out HBX.out (by exact (Below.refl _ _).alloc (Nat.le_refl _) _) HP9.out.2 (fun X hf => hats_one rfl hf (opInt (by omega)) HIN1.out (by simp)) (ones_one _ _ _) (by have := HKM.out; omega) heb ?_)
          intro v11 w11 hp11 hb11
          have HQ11 := Lib.hid hp11
          have HB11 := Lib.hid (below_then HB9.out hb11)
          have HU11 := Lib.hid (Utf8Tabs_below HU9.out hb11)
          have HC11 := Lib.hid (HC9.out.below hb11)
          have HP11 := Lib.hid (HP9.out.below hb11)
          have HR11 := Lib.hid (HR9.out.below hb11)
          clear HO10 HBX hp11 hb11
          go_wp2_with fail
          have HEV12 := hpeval_any (hpks l0) (m ++ [hpN 3 [34] (w10.heap.size)]) r v11 v2 w11 HU11.out HQ11.out HR11.out (hoks_not HOK.out.2.2 HOK.out.1 HT.out) (by simp) (by simp [HKM.out] <;> omega) HRL.out HRB.out
          rw [hev_not HOK.out.1 HT.out, ← HE.out] at HEV12
          have HEW := Lib.hid HEV12
          clear HEV12
          refine HEW.out.mono ?_
          rintro e w12 ⟨rfl, hb12⟩
          have HB12 := Lib.hid (below_then HB11.out hb12)
          have HU12 := Lib.hid (Utf8Tabs_below HU11.out hb12)
          have HC12 := Lib.hid (HC11.out.below hb12)
          have HP12 := Lib.hid (HP11.out.below hb12)
          have HR12 := Lib.hid (HR11.out.below hb12)
          clear HEW HQ11 hb12
          go_wp2_with (at_builtin; refine wpList_copyP HEB.out rfl _ _ rfl m A 35 c w12 rfl rfl rfl HP12.out (by omega) heb ?_)
          intro v13 w13 ho13 hb13
          have HO13 := Lib.hid ho13
          have HBX := Lib.hid hb13
          clear ho13 hb13
          go_wp2_with (at_builtin; refine wpList_nodes HEB.out rfl _ _ rfl v13 m [hpN 1 [34, 34] (w13.heap.size)] w13 (w13.alloc (.cells #[.int .i64 34, .int .i64 34] 3)) w12 (w13.heap.size + 1) 1 1 (by simp) rfl rfl rfl rfl HO13.out HBX.out (by exact (Below.refl _ _).alloc (Nat.le_refl _) _) HP12.out.2 (fun X hf => hats_one rfl hf (opInt (by omega)) HIN3.out (by simp)) (ones_one _ _ _) (by have := HKM.out; omega) heb ?_)
          intro v14 w14 hp14 hb14
          have HQ14 := Lib.hid hp14
          have HB14 := Lib.hid (below_then HB12.out hb14)
          have HU14 := Lib.hid (Utf8Tabs_below HU12.out hb14)
          have HC14 := Lib.hid (HC12.out.below hb14)
          have HP14 := Lib.hid (HP12.out.below hb14)
          have HR14 := Lib.hid (HR12.out.below hb14)
          clear HO13 HBX hp14 hb14
          go_wp2_with fail
          have HEV15 := hpeval_any (hpks l0) (m ++ [hpN 1 [34, 34] (w13.heap.size)]) r v14 v2 w14 HU14.out HQ14.out HR14.out (hoks_two (.inl rfl) HOK.out.2.2 HOK.out.1 HT.out) (by simp) (by simp [HKM.out] <;> omega) HRL.out HRB.out
          rw [hev_and HOK.out.1 HT.out, ← HE.out] at HEV15
          have HEW := Lib.hid HEV15
          clear HEV15
          refine HEW.out.mono ?_
          rintro e w15 ⟨rfl, hb15⟩
          have HB15 := Lib.hid (below_then HB14.out hb15)
          have HU15 := Lib.hid (Utf8Tabs_below HU14.out hb15)
          have HC15 := Lib.hid (HC14.out.below hb15)
          have HP15 := Lib.hid (HP14.out.below hb15)
          have HR15 := Lib.hid (HR14.out.below hb15)
          clear HEW HQ14 hb15
          go_wp2_with (at_builtin; refine wpList_copyP HEB.out rfl _ _ rfl m A 35 c w15 rfl rfl rfl HP15.out (by omega) heb ?_)
          intro v16 w16 ho16 hb16
          have HO16 := Lib.hid ho16
          have HBX := Lib.hid hb16
          clear ho16 hb16
          go_wp2_with (at_builtin; refine wpList_nodes HEB.out rfl _ _ rfl v16 m [hpN 2 [34, 34] (w16.heap.size)] w16 (w16.alloc (.cells #[.int .i64 34, .int .i64 34] 3)) w15 (w16.heap.size + 1) 1 1 (by simp) rfl rfl rfl rfl HO16.out HBX.out (by exact (Below.refl _ _).alloc (Nat.le_refl _) _) HP15.out.2 (fun X hf => hats_one rfl hf (opInt (by omega)) HIN3.out (by simp)) (ones_one _ _ _) (by have := HKM.out; omega) heb ?_)
          intro v17 w17 hp17 hb17
          have HQ17 := Lib.hid hp17
          have HB17 := Lib.hid (below_then HB15.out hb17)
          have HU17 := Lib.hid (Utf8Tabs_below HU15.out hb17)
          have HC17 := Lib.hid (HC15.out.below hb17)
          have HP17 := Lib.hid (HP15.out.below hb17)
          have HR17 := Lib.hid (HR15.out.below hb17)
          clear HO16 HBX hp17 hb17
          go_wp2_with fail
          have HEV18 := hpeval_any (hpks l0) (m ++ [hpN 2 [34, 34] (w16.heap.size)]) r v17 v2 w17 HU17.out HQ17.out HR17.out (hoks_two (.inr rfl) HOK.out.2.2 HOK.out.1 HT.out) (by simp) (by simp [HKM.out] <;> omega) HRL.out HRB.out
          rw [hev_or HOK.out.1 HT.out, ← HE.out] at HEV18
          have HEW := Lib.hid HEV18
          clear HEV18
          refine HEW.out.mono ?_
          rintro e w18 ⟨rfl, hb18⟩
          have HB18 := Lib.hid (below_then HB17.out hb18)
          have HU18 := Lib.hid (Utf8Tabs_below HU17.out hb18)
          have HC18 := Lib.hid (HC17.out.below hb18)
          have HP18 := Lib.hid (HP17.out.below hb18)
          have HR18 := Lib.hid (HR17.out.below hb18)
          clear HEW HQ17 hb18
          go_wp2_with (at_builtin; refine wpList_copyP HEB.out rfl _ _ rfl m A 35 c w18 rfl rfl rfl HP18.out (by omega) heb ?_)
          intro v19 w19 ho19 hb19
          have HO19 := Lib.hid ho19
          have HBX := Lib.hid hb19
          clear ho19 hb19
          go_wp2_with (at_builtin; refine wpList_nodes HEB.out rfl _ _ rfl v19 m [hpT, hpN 1 [34, 35] (w19.heap.size)] w19 (w19.alloc (.cells #[.int .i64 34, .int .i64 35] 3)) w18 (w19.heap.size + 1) 2 2 (by simp) rfl rfl rfl rfl HO19.out HBX.out (by exact (Below.refl _ _).alloc (Nat.le_refl _) _) HP18.out.2 (fun X hf => hats_yes rfl hf (opInt (by omega)) HIN2.out (by simp)) (ones_yes _ _ _) (by have := HKM.out; omega) heb ?_)
          intro v20 w20 hp20 hb20
          have HQ20 := Lib.hid hp20
          have HB20 := Lib.hid (below_then HB18.out hb20)
          have HU20 := Lib.hid (Utf8Tabs_below HU18.out hb20)
          have HC20 := Lib.hid (HC18.out.below hb20)
          have HP20 := Lib.hid (HP18.out.below hb20)
          have HR20 := Lib.hid (HR18.out.below hb20)
          clear HO19 HBX hp20 hb20
          go_wp2_with fail
          have HEV21 := hpeval_any (hpks l0) (m ++ [hpT, hpN 1 [34, 35] (w19.heap.size)]) r v20 v2 w20 HU20.out HQ20.out HR20.out (hoks_yes HOK.out.2.2 HOK.out.1 HT.out HT1.out) (by simp) (by simp [HKM.out] <;> omega) HRL.out HRB.out
          rw [hev_yes HOK.out.1 HT.out HT1.out, ← HE.out] at HEV21
          have HEW := Lib.hid HEV21
          clear HEV21
          refine HEW.out.mono ?_
          rintro e w21 ⟨rfl, hb21⟩
          have HB21 := Lib.hid (below_then HB20.out hb21)
          have HU21 := Lib.hid (Utf8Tabs_below HU20.out hb21)
          have HC21 := Lib.hid (HC20.out.below hb21)
          have HP21 := Lib.hid (HP20.out.below hb21)
          have HR21 := Lib.hid (HR20.out.below hb21)
          clear HEW HQ20 hb21
          go_wp2_with (at_builtin; refine wpList_copyP HEB.out rfl _ _ rfl m A 35 c w21 rfl rfl rfl HP21.out (by omega) heb ?_)
          intro v22 w22 ho22 hb22
          have HO22 := Lib.hid ho22
          have HBX := Lib.hid hb22
          clear ho22 hb22
          go_wp2_with (at_builtin; refine wpList_nodes HEB.out rfl _ _ rfl v22 m [hpN 3 [34] (w22.heap.size), hpN 2 [34, 35] (w22.heap.size + 1)] w22 ((w22.alloc (.cells #[.int .i64 34] 3)).alloc (.cells #[.int .i64 34, .int .i64 35] 3)) w21 (w22.heap.size + 2) 2 2 (by simp) rfl rfl rfl rfl HO22.out HBX.out (by exact ((Below.refl _ _).alloc (Nat.le_refl _) _).alloc (by simp) _) HP21.out.2 (fun X hf => hats_two rfl hf (opInt (by omega)) (opInt (by omega)) HIN1.out HIN2.out (by simp) (by simp)) (ones_two _ _ _ _ _ _) (by have := HKM.out; omega) heb ?_)
          intro v23 w23 hp23 hb23
          have HQ23 := Lib.hid hp23
          have HB23 := Lib.hid (below_then HB21.out hb23)
          have HU23 := Lib.hid (Utf8Tabs_below HU21.out hb23)
          have HC23 := Lib.hid (HC21.out.below hb23)
          have HP23 := Lib.hid (HP21.out.below hb23)
          have HR23 := Lib.hid (HR21.out.below hb23)
          clear HO22 HBX hp23 hb23
          go_wp2_with fail
          have HEV24 := hpeval_any (hpks l0) (m ++ [hpN 3 [34] (w22.heap.size), hpN 2 [34, 35] (w22.heap.size + 1)]) r v23 v2 w23 HU23.out HQ23.out HR23.out (hoks_either HOK.out.2.2 HOK.out.1 HT.out HT1.out) (by simp) (by simp [HKM.out] <;> omega) HRL.out HRB.out
          rw [hev_either HOK.out.1 HT.out HT1.out, ← HE.out] at HEV24
          have HEW := Lib.hid HEV24
          clear HEV24
          refine HEW.out.mono ?_
          rintro e w24 ⟨rfl, hb24⟩
          have HB24 := Lib.hid (below_then HB23.out hb24)
          have HU24 := Lib.hid (Utf8Tabs_below HU23.out hb24)
          have HC24 := Lib.hid (HC23.out.below hb24)
          have HP24 := Lib.hid (HP23.out.below hb24)
          have HR24 := Lib.hid (HR23.out.below hb24)
          clear HEW HQ23 hb24
          have HEI := HEB3.out
          rcases (by omega : E = 0 ∨ E = 1 ∨ E = 2) with hE | hE | hE
          all_goals
            rw [hE]
            go_wp2
            go_ret
            exact ⟨rfl, HB24.out⟩
      · rw [hz] at HROW
        clear hz
        go_enter Tryd.func7, Tryd.ntmps7
        go_wp2_with fail
        refine HSH.out.mono ?_
        rintro e w1 ⟨rfl, hb1⟩
        have HB1 := Lib.hid hb1
        have HU1 := Lib.hid (Utf8Tabs_below HU.out hb1)
        have HC1 := Lib.hid (HC.out.below hb1)
        have HP1 := Lib.hid (HP.out.below hb1)
        have HR1 := Lib.hid (HR.out.below hb1)
        clear hb1
        go_wp2_with fail
        refine (HMAY.out w1 HU1.out HC1.out HP1.out).mono ?_
        rintro e w3 ⟨rfl, hb3⟩
        have HB3 := Lib.hid (below_then HB1.out hb3)
        have HU3 := Lib.hid (Utf8Tabs_below HU1.out hb3)
        have HC3 := Lib.hid (HC1.out.below hb3)
        have HP3 := Lib.hid (HP1.out.below hb3)
        have HR3 := Lib.hid (HR1.out.below hb3)
        clear hb3
        go_wp2_with fail
        refine (HSCH.out w3 HC3.out).mono ?_
        rintro e w4 ⟨rfl, hb4⟩
        have HB4 := Lib.hid (below_then HB3.out hb4)
        have HU4 := Lib.hid (Utf8Tabs_below HU3.out hb4)
        have HC4 := Lib.hid (HC3.out.below hb4)
        have HP4 := Lib.hid (HP3.out.below hb4)
        have HR4 := Lib.hid (HR3.out.below hb4)
        clear hb4
        go_wp2_with fail
        refine (HROW.out w4 HU4.out HC4.out HR4.out (by have := HL6.out; omega)).mono ?_
        rintro e w5 ⟨rfl, hb5⟩
        have HB5 := Lib.hid (below_then HB4.out hb5)
        have HU5 := Lib.hid (Utf8Tabs_below HU4.out hb5)
        have HC5 := Lib.hid (HC4.out.below hb5)
        have HP5 := Lib.hid (HP4.out.below hb5)
        have HR5 := Lib.hid (HR4.out.below hb5)
        clear hb5
        go_wp2
        go_ret
        exact ⟨rfl, HB5.out⟩
    · rw [hz] at HSCH
      clear hz
      go_enter Tryd.func7, Tryd.ntmps7
      go_wp2_with fail
      refine HSH.out.mono ?_
      rintro e w1 ⟨rfl, hb1⟩
      have HB1 := Lib.hid hb1
      have HU1 := Lib.hid (Utf8Tabs_below HU.out hb1)
      have HC1 := Lib.hid (HC.out.below hb1)
      have HP1 := Lib.hid (HP.out.below hb1)
      have HR1 := Lib.hid (HR.out.below hb1)
      clear hb1
      go_wp2_with fail
      refine (HMAY.out w1 HU1.out HC1.out HP1.out).mono ?_
      rintro e w3 ⟨rfl, hb3⟩
      have HB3 := Lib.hid (below_then HB1.out hb3)
      have HU3 := Lib.hid (Utf8Tabs_below HU1.out hb3)
      have HC3 := Lib.hid (HC1.out.below hb3)
      have HP3 := Lib.hid (HP1.out.below hb3)
      have HR3 := Lib.hid (HR1.out.below hb3)
      clear hb3
      go_wp2_with fail
      refine (HSCH.out w3 HC3.out).mono ?_
      rintro e w4 ⟨rfl, hb4⟩
      have HB4 := Lib.hid (below_then HB3.out hb4)
      have HU4 := Lib.hid (Utf8Tabs_below HU3.out hb4)
      have HC4 := Lib.hid (HC3.out.below hb4)
      have HP4 := Lib.hid (HP3.out.below hb4)
      have HR4 := Lib.hid (HR3.out.below hb4)
      clear hb4
      go_wp2
      go_ret
      exact ⟨rfl, HB4.out⟩
theorem PredTurned_walk (w : World) (hU : Tryd.U8 w) (v0 : Value) (l0 : List CC) (h0 : IsR ccells l0 v0 w) (hs0 : ∀ x ∈ l0, x.s.size ≤ maxLen) (_hk0 : ∀ x ∈ l0, -9223372036854775808 ≤ x.kind ∧ x.kind ≤ 9223372036854775807) (v1 : Value) (l1 : List HN) (h1 : IsPreds l1 v1 w) (v2 : Value) (l2 : List CV) (h2 : HRow l2 v2 w) :
    Calls Tryd.prog 7 #[v0, v1, v2] w fun e w' => e = .returned (.bool true) ∧ Below w.heap.size w w' := by
  obtain ⟨A, n, c, rfl⟩ := h1.1.shape
  rcases Nat.lt_or_ge 35 n with hn | hn
  · exact PredTurned_many w hU v0 l0 h0 hs0 A n c l1 h1 v2 l2 h2 hn
  · exact PredTurned_few w hU v0 l0 h0 hs0 A n c l1 h1 v2 l2 h2 hn

set_option maxRecDepth 100000 in
theorem PredTurned_lifted (os : Os) (started : os.Started) (H : Type) (enc : TypeId × Value → H) :
    ReturnsInHanded {} Tryd.checked os 7 .any (fun w args => (Rows.predTurnedSpec.pre enc Tryd.prog Tryd.f7 [] false w args ∧ laidMetH Tryd.prog [("unicode/utf8.acceptRanges", Rows.laid_unicode_utf8_acceptRanges), ("unicode/utf8.first", Rows.laid_unicode_utf8_first)] w) ∧ sizedMet enc Tryd.prog Tryd.f7 (OpenSpec.ofChange Rows.predTurnedSpec) false w args) (Rows.predTurnedSpec.post enc Tryd.prog Tryd.f7 false true false false) := by
  refine returnsInHanded_of_change_and (C := Tryd.checked) (X := fun w _ => laidMetH Tryd.prog [("unicode/utf8.acceptRanges", Rows.laid_unicode_utf8_acceptRanges), ("unicode/utf8.first", Rows.laid_unicode_utf8_first)] w) (fun _ _ _ hh h => h.of_heap hh) own started (by kernel_rfl) Tryd.func7
    (ChangeSpec.witness_shaped (enc := enc) (C := Tryd.checked) (os := os) (X := fun w _ => laidMetH Tryd.prog [("unicode/utf8.acceptRanges", Rows.laid_unicode_utf8_acceptRanges), ("unicode/utf8.first", Rows.laid_unicode_utf8_first)] w) false (World.laidAll Tryd.prog os [("unicode/utf8.acceptRanges", Rows.laid_unicode_utf8_acceptRanges), ("unicode/utf8.first", Rows.laid_unicode_utf8_first)]) #[.slice none 0 0, .slice none 0 0, .slice none 0 0] 8 (World.laidAll_os _ _ _) (World.shaped_of_ZipB (by kernel_rfl) (by kernel_rfl)) (by kernel_rfl) (by kernel_rfl) (by kernel_rfl) (by rw [MakeChecks.laidMetH_plain _ _ _ (by kernel_rfl)]; exact laidMet_laidAll _ (by kernel_rfl) (by kernel_rfl))) ?_
  intro W base args ds gs before hval0 hW _ hsz hL _
  have hT := u8_of hL
  clear hL
  have hval : ∀ (j : Nat) t v, Tryd.f7.params[j]? = some t → args[j]? = some v → Value.okWide Tryd.prog W .any base t v := hval0
  have hW' := hW
  obtain ⟨p, q, hT0, hV, rfl, hfz, hnd⟩ := hW
  have hA : DataW.TrodAll enc Tryd.prog W 0 (fun _ => true) true Tryd.f7.params.toList args.toList ds p := hT0
  rw [Tryd.params7] at hA hval
  obtain ⟨v0, vs0, d0, ds0, p0, q0, hargs, rfl, rfl, h0, r0⟩ := trodAll_cons hA
  obtain ⟨v1, vs1, d1, ds1, p1, q1, rfl, rfl, rfl, h1, r1⟩ := trodAll_cons r0
  obtain ⟨v2, vs2, d2, ds2, p2, q2, rfl, rfl, rfl, h2, r2⟩ := trodAll_cons r1
  obtain ⟨rfl, rfl, rfl⟩ := trodAll_nil r2
  obtain rfl : args = #[v0, v1, v2] := by cases args; simp_all
  obtain ⟨rfl, rfl⟩ := trodVars_none hV
  have hlt0 : ∀ x ∈ p0, x.block < W.heap.size := fun x hx => hW'.lt x (by simp [hx])
  obtain ⟨l0, hl0, hp0, hq0⟩ := open_cols (hval 0 22 v0 rfl rfl) h0 hlt0
  have hlt1 : ∀ x ∈ p1, x.block < W.heap.size := fun x hx => hW'.lt x (by simp [hx])
  have hwt1 : Reached Tryd.prog 23 d1 := fun n hn => by simpa using List.all_eq_true.1 hsz n (DataW.weights_mem_each (j := 1) (by kernel_rfl) rfl n hn)
  obtain ⟨l1, hl1⟩ := open_preds hwt1 (hval 1 23 v1 rfl rfl) h1 hlt1
  have hlt2 : ∀ x ∈ p2, x.block < W.heap.size := fun x hx => hW'.lt x (by simp [hx])
  obtain ⟨l2, hl2⟩ := open_row (hval 2 32 v2 rfl rfl) h2 hlt2
  clear hT0 hval0
  refine (PredTurned_walk W hT v0 l0 hl0 hp0 hq0 v1 l1 hl1 v2 l2 hl2).mono fun e W' ⟨he, hb⟩ => ?_
  subst he
  exact ⟨_, rfl, law_post laidOut Tryd.underlying4 (by kernel_rfl) (by kernel_rfl) rfl hW' rfl hb⟩

theorem PredTurned_over : Rows.predTurnedRow.holds Tryd.pinned (OpenSpec.ofChange Rows.predTurnedSpec) :=
  OpenClaim.holds_of_wide 7 Tryd.f7 rfl rfl rfl rfl rfl rfl rfl ⟨rfl, rfl, rfl, rfl, rfl⟩ rfl rfl rfl rfl rfl (by kernel_rfl) Tryd.func7 (by kernel_rfl)
    (of_decide_eq_true (by kernel_rfl)) (by unfold Func.isWrapper; first | (rw [if_pos (by decide +kernel)]; kernel_rfl) | (rw [if_neg (by decide +kernel)]; exact ⟨rfl, rfl⟩))
    (fun os started H enc _ => PredTurned_lifted os started H enc)

theorem PredTurned_holds : Rows.PredTurnedCardSaid :=
  Claim7.holds_tied_plain_at .later [] _ true _ _ PredTurned_over (fun _ h => by cases h) (by kernel_rfl) (fun _ h => by cases h) predTurned_row_tie rfl ⟨rfl, rfl⟩ (by kernel_rfl) rfl
    (fun f fn hf hfn => by
      obtain rfl : f = 7 := Option.some.inj ((show Tryd.prog.funcNamed "pilaster/pilasterlaw18.PredTurned" = some 7 by kernel_rfl).symm.trans hf) |>.symm
      obtain rfl : fn = Tryd.f7 := (Option.some.inj (Tryd.func7.symm.trans hfn)).symm
      exact ⟨by kernel_rfl, fun j t ht => stand_ins (by kernel_rfl) ht⟩)
    (by kernel_rfl)
#print axioms PredTurned_holds

end Go.Proofs.YtniniophoocalaaDoor
