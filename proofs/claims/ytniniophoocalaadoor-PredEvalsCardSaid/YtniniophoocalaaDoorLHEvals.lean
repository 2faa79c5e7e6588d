
/- The statement PredEvals: for any columns, nodes and rows the law answers true. No condition. Written by gen_pred_laws.py. -/

import Derived.StillTailTactics
import Derived.Test.YtniniophoocalaaDoorG7
namespace Go.Proofs.YtniniophoocalaaDoor

open Go.RowKit Go.ChangeShapes Go.WideShapes Go.ChangeAt

theorem row_sizeH : ∀ W, (sizeOf 32).run Tryd.prog W = .ok 1 W := fun W => by kernel_rfl
theorem hsch_or (l : List CC) : (kscheme l = 0 ∧ l.length ≤ 6) ∨ kscheme l = 20 := by
  unfold kscheme
  split
  · rename_i h; exact .inl ⟨rfl, h.2.1⟩
  · exact .inr rfl
theorem hrow_or (l : List CC) (r : List CV) : (krow l r = 0 ∧ l.length = r.length) ∨ krow l r = 21 := by
  unfold krow
  split
  · rename_i h; exact .inl ⟨rfl, h.1⟩
  · exact .inr rfl
def HEvRel (n : Nat) (w : World) (i : Value) (wr : World) : Prop := ∃ k : Nat, k ≤ n ∧ k ≤ 20 ∧ i = .int .i64 (k : Int) ∧ Below w.heap.size w wr
set_option maxHeartbeats 4000000 in
set_option maxRecDepth 100000 in
theorem PredEvals_walk (w : World) (hU : Tryd.U8 w) (v0 : Value) (l0 : List CC) (h0 : IsR ccells l0 v0 w) (hs0 : ∀ x ∈ l0, x.s.size ≤ maxLen) (_hk0 : ∀ x ∈ l0, -9223372036854775808 ≤ x.kind ∧ x.kind ≤ 9223372036854775807) (v1 : Value) (l1 : List HN) (h1 : IsPreds l1 v1 w) (v2 : Value) (l2 : List (List CV × Value)) (h2 : IsRows l2 v2 w) :
    Calls Tryd.prog 4 #[v0, v1, v2] w fun e w' => e = .returned (.bool true) ∧ Below w.heap.size w w' := by
  obtain ⟨A, n, c, rfl⟩ := h2.1.shape
  have HU := Lib.hid hU
  have HC := Lib.hid h0
  have HP := Lib.hid h1
  have HR := Lib.hid h2
  have HRN := Lib.hid h2.1.parts.1
  have hn9 : (n : Int) ≤ 9223372036854775807 := by obtain ⟨_, _, h3, h4, _⟩ := h2.1.parts; unfold maxLen at h4; omega
  obtain ⟨m, hm⟩ : ∃ m, m = l1.take 45 := ⟨_, rfl⟩
  have HF := Lib.hid (fun X (h : IsPreds l1 v1 X) => few18_any l1 v1 X h)
  rw [← hm] at HF
  have HMAY := Lib.hid (fun u X (hX : Tryd.U8 X) (hc : IsR ccells l0 v0 X) (hp : IsPreds m u X) => rmay18_any l0 m v0 u X hX hc hp)
  have HSCH := Lib.hid (fun X (hc : IsR ccells l0 v0 X) => rschema12_own l0 v0 X hc hs0)
  have HSH := Lib.hid (shown18_any w hU)
  clear hU h0 h1 h2 hs0 _hk0 hm
  cases hmay : hpmayE (hpks l0) m with
  | false =>
    rw [hmay] at HMAY
    clear hmay
    go_enter Tryd.func4, Tryd.ntmps4
    go_wp2_with fail
    refine HSH.out.mono ?_
    rintro e w1 ⟨rfl, hb1⟩
    have HB1 := Lib.hid hb1
    have HU1 := Lib.hid (Utf8Tabs_below HU.out hb1)
    have HP1 := Lib.hid (HP.out.below hb1)
    clear hb1
    go_wp2_with fail
    refine (HF.out w1 HP1.out).mono ?_
    rintro e w2 ⟨⟨u, rfl, hu⟩, rfl⟩
    have HP2 := Lib.hid hu
    clear hu
    go_wp2_with fail
    refine (HMAY.out u w1 HU1.out (HC.out.below HB1.out) HP2.out).mono ?_
    rintro e w3 ⟨rfl, hb3⟩
    have HB3 := Lib.hid (below_then HB1.out hb3)
    have HP3 := Lib.hid (HP2.out.below hb3)
    clear hb3
    go_wp2
    go_ret
    exact ⟨rfl, HB3.out⟩
  | true =>
    rw [hmay] at HMAY
    have HOK := Lib.hid (hpmay_ok hmay)
    clear hmay
    rcases hsch_or l0 with ⟨hz, hl6⟩ | hz
    · rw [hz] at HSCH
      have HL6 := Lib.hid hl6
      clear hz hl6
      go_enter Tryd.func4, Tryd.ntmps4
      go_wp2_with fail
      refine HSH.out.mono ?_
      rintro e w1 ⟨rfl, hb1⟩
      have HB1 := Lib.hid hb1
      have HU1 := Lib.hid (Utf8Tabs_below HU.out hb1)
      have HP1 := Lib.hid (HP.out.below hb1)
      clear hb1
      go_wp2_with fail
      refine (HF.out w1 HP1.out).mono ?_
      rintro e w2 ⟨⟨u, rfl, hu⟩, rfl⟩
      have HP2 := Lib.hid hu
      clear hu
      go_wp2_with fail
      refine (HMAY.out u w1 HU1.out (HC.out.below HB1.out) HP2.out).mono ?_
      rintro e w3 ⟨rfl, hb3⟩
      have HB3 := Lib.hid (below_then HB1.out hb3)
      have HP3 := Lib.hid (HP2.out.below hb3)
      clear hb3
      go_wp2_with fail
      refine (HSCH.out w3 (HC.out.below HB3.out)).mono ?_
      rintro e w4 ⟨rfl, hb4⟩
      have HB4 := Lib.hid (below_then HB3.out hb4)
      have HP4 := Lib.hid (HP3.out.below hb4)
      clear hb4
      have HU4 := Lib.hid (Utf8Tabs_below HU.out HB4.out)
      have HC4 := Lib.hid (HC.out.below HB4.out)
      have HR4 := Lib.hid (HR.out.below HB4.out)
      go_wp2
      go_loopw [9] (HEvRel n w4) (fun i _ => n - (intOf i).toNat)
      case atStart => exact ⟨0, Nat.zero_le _, Nat.zero_le _, rfl, Below.refl _ _⟩
      case round =>
        obtain ⟨k, hk, hk20, rfl, hbw⟩ := hrel
        have HBW := Lib.hid hbw
        by_cases hlt : k < n
        · have hlti : (k : Int) < (n : Int) := by omega
          by_cases h20 : k < 20
          · have h20i : (k : Int) < 20 := by omega
            have hkl : k < l2.length := by have := HRN.out; omega
            obtain ⟨ad, rfl, had, hcell⟩ := ((HR4.out.below hbw).1).at (m := 1) (fun _ => rfl) (by omega) hkl
            obtain ⟨⟨r, rv⟩, hr⟩ : ∃ x, x = l2[k] := ⟨_, rfl⟩
            have hrow := (HR4.out.below hbw).2 _ (List.getElem_mem hkl)
            rw [← hr] at hrow hcell
            have HK0 : Hid (wr.cell? (ad.add (k * 1)) = some rv) := Lib.hid (hcell 0 (by omega))
            have HAB := Lib.hid had
            have HROW0 := Lib.hid (fun X (hX : Below wr.heap.size wr X) => rrow12_own l0 r v0 rv X (Utf8Tabs_below HU4.out (below_then hbw hX)) ((HC4.out.below hbw).below hX) (hrow.below hX).row hrow.sizes (by have := HL6.out; omega))
            rcases hrow_or l0 r with ⟨hz, hlen⟩ | hz
            · have HROW := HROW0
              rw [hz] at HROW
              obtain ⟨E, hE⟩ : ∃ E, E = hpevalE m r := ⟨_, rfl⟩
              have hl1 : r.length = (hpks l0).length := by unfold hpks; rw [List.length_map]; exact hlen.symm
              have hl2 : r.length ≤ 1000000 := by have := HL6.out; omega
              have HEV := Lib.hid (fun X (hX : Below wr.heap.size wr X) => hpeval_any (hpks l0) m r u rv X (Utf8Tabs_below HU4.out (below_then hbw hX)) ((HP4.out.below hbw).below hX) (hrow.below hX) HOK.out.2.2 HOK.out.1 HOK.out.2.1 hl1 hl2)
              have HRE := Lib.hid (fun X (hX : Below wr.heap.size wr X) => reval18_any (hpks l0) m r u rv X ((HP4.out.below hbw).below hX) (hrow.below hX).row HOK.out.2.2 HOK.out.1 HOK.out.2.1 hl1 hl2)
              rw [← hE] at HEV HRE
              clear hE hl1 hl2 hlen hz HROW0 hrow hcell had hr hbw
              go_wp2
              refine wp_region_list [.is (v0), .is (.slice (some ad) n c), .is (.int .i64 (k : Int)), .is (.pointer (some (ad.add (k * 1)))), .is (rv), .is (.int .i64 0), .is (.bool true), .is (.bool true), .is (u), .is (.slice (some ad) n c), .is (.int .i64 (k : Int)), .is (.pointer (some (ad.add (k * 1)))), .is (rv), .is (.int .i64 E), .is (u), .is (.slice (some ad) n c), .is (.int .i64 (k : Int)), .is (.pointer (some (ad.add (k * 1)))), .is (rv), .is (.int .i64 E), .is (.bool false), .is (.bool false)] [some 34, some 35, some 36, some 37, some 38, some 39, some 40, some 41, some 42, some 43, some 44, some 45, some 46, some 47, some 48, some 49, some 50, some 51, some 52, some 53, some 54, some 55] (by kernel_rfl) (by kernel_rfl) (by kernel_rfl) rfl ⟨?_, ?_, ?_, ?_, ?_, ?_, ?_, ?_, ?_, ?_, ?_, ?_, ?_, ?_, ?_, ?_, ?_, ?_, ?_, ?_, ?_, ?_, trivial⟩ ?_
              · intro ρ W1 hb1 H
                exact gives_move rfl (H.old 0 _ (by kernel_rfl) rfl) ⟨rfl, Below.refl _ _⟩
              · intro ρ W1 hb1 H
                exact gives_move rfl (H.old 2 _ (by kernel_rfl) rfl) ⟨rfl, Below.refl _ _⟩
              · intro ρ W1 hb1 H
                exact gives_move rfl (H.old 9 _ (by kernel_rfl) rfl) ⟨rfl, Below.refl _ _⟩
              · intro ρ W1 hb1 H
                exact gives_index_wide (k := k) Tryd.underlying27 row_sizeH rfl (H.new 35 1 (by kernel_rfl)) (H.new 36 2 (by kernel_rfl)) (by omega) ⟨rfl, Below.refl _ _⟩
              · intro ρ W1 hb1 H
                exact gives_load rfl (H.new 37 3 (by kernel_rfl)) Tryd.underlying32 rfl ((hb1.cell (by rw [add_block]; exact HAB.out)).trans HK0.out) ⟨rfl, Below.refl _ _⟩
              · intro ρ W1 hb1 H
                have e0 : ρ (.tmp 34) = v0 := H.new 34 0 (by kernel_rfl)
                have e1 : ρ (.tmp 38) = rv := H.new 38 4 (by kernel_rfl)
                refine gives_call rfl (fun _ _ => by kernel_rfl) (H.func _) (args := #[v0, rv]) (by simp [e0, e1]) ?_
                exact (HROW.out W1 hb1).mono fun e w' ⟨h1, h2⟩ => ⟨_, h1, rfl, h2⟩
              · intro ρ W1 hb1 H
                exact gives_inteq rfl (H.new 39 5 (by kernel_rfl)) (H.const _) ⟨by simp [facts, Fact.is], Below.refl _ _⟩
              · intro ρ W1 hb1 H
                exact gives_move rfl (H.new 40 6 (by kernel_rfl)) ⟨rfl, Below.refl _ _⟩
              · intro ρ W1 hb1 H d hd
                have hd' : (some 41 : Option Tmp) = some d := hd
                injection hd' with hd'
                subst hd'
                refine ⟨fun _ => ?_, fun hne => absurd (H.new 41 7 (by kernel_rfl)) hne⟩
                exact gives_move rfl (H.old 1 _ (by kernel_rfl) rfl) ⟨rfl, Below.refl _ _⟩
              · intro ρ W1 hb1 H d hd
                have hd' : (some 41 : Option Tmp) = some d := hd
                injection hd' with hd'
                subst hd'
                refine ⟨fun _ => ?_, fun hne => absurd (H.new 41 7 (by kernel_rfl)) hne⟩
                exact gives_move rfl (H.old 2 _ (by kernel_rfl) rfl) ⟨rfl, Below.refl _ _⟩
              · intro ρ W1 hb1 H d hd
                have hd' : (some 41 : Option Tmp) = some d := hd
                injection hd' with hd'
                subst hd'
                refine ⟨fun _ => ?_, fun hne => absurd (H.new 41 7 (by kernel_rfl)) hne⟩
                exact gives_move rfl (H.old 9 _ (by kernel_rfl) rfl) ⟨rfl, Below.refl _ _⟩
              · intro ρ W1 hb1 H d hd
                have hd' : (some 41 : Option Tmp) = some d := hd
                injection hd' with hd'
                subst hd'
                refine ⟨fun _ => ?_, fun hne => absurd (H.new 41 7 (by kernel_rfl)) hne⟩
                exact gives_index_wide (k := k) Tryd.underlying27 row_sizeH rfl (H.new 43 9 (by kernel_rfl)) (H.new 44 10 (by kernel_rfl)) (by omega) ⟨rfl, Below.refl _ _⟩
              · intro ρ W1 hb1 H d hd
                have hd' : (some 41 : Option Tmp) = some d := hd
                injection hd' with hd'
                subst hd'
                refine ⟨fun _ => ?_, fun hne => absurd (H.new 41 7 (by kernel_rfl)) hne⟩
                exact gives_load rfl (H.new 45 11 (by kernel_rfl)) Tryd.underlying32 rfl ((hb1.cell (by rw [add_block]; exact HAB.out)).trans HK0.out) ⟨rfl, Below.refl _ _⟩
              · intro ρ W1 hb1 H d hd
                have hd' : (some 41 : Option Tmp) = some d := hd
                injection hd' with hd'
                subst hd'
                refine ⟨fun _ => ?_, fun hne => absurd (H.new 41 7 (by kernel_rfl)) hne⟩
                have e0 : ρ (.tmp 42) = u := H.new 42 8 (by kernel_rfl)
                have e1 : ρ (.tmp 46) = rv := H.new 46 12 (by kernel_rfl)
                refine gives_call rfl (fun _ _ => by kernel_rfl) (H.func _) (args := #[u, rv]) (by simp [e0, e1]) ?_
                exact (HEV.out W1 hb1).mono fun e w' ⟨h1, h2⟩ => ⟨_, h1, rfl, h2⟩
              · intro ρ W1 hb1 H d hd
                have hd' : (some 41 : Option Tmp) = some d := hd
                injection hd' with hd'
                subst hd'
                refine ⟨fun _ => ?_, fun hne => absurd (H.new 41 7 (by kernel_rfl)) hne⟩
                exact gives_move rfl (H.old 1 _ (by kernel_rfl) rfl) ⟨rfl, Below.refl _ _⟩
              · intro ρ W1 hb1 H d hd
                have hd' : (some 41 : Option Tmp) = some d := hd
                injection hd' with hd'
                subst hd'
                refine ⟨fun _ => ?_, fun hne => absurd (H.new 41 7 (by kernel_rfl)) hne⟩
                exact gives_move rfl (H.old 2 _ (by kernel_rfl) rfl) ⟨rfl, Below.refl _ _⟩
              · intro ρ W1 hb1 H d hd
                have hd' : (some 41 : Option Tmp) = some d := hd
                injection hd' with hd'
                subst hd'
                refine ⟨fun _ => ?_, fun hne => absurd (H.new 41 7 (by kernel_rfl)) hne⟩
                exact gives_move rfl (H.old 9 _ (by kernel_rfl) rfl) ⟨rfl, Below.refl _ _⟩
              · intro ρ W1 hb1 H d hd
                have hd' : (some 41 : Option Tmp) = some d := hd
                injection hd' with hd'
                subst hd'
                refine ⟨fun _ => ?_, fun hne => absurd (H.new 41 7 (by kernel_rfl)) hne⟩
                exact gives_index_wide (k := k) Tryd.underlying27 row_sizeH rfl (H.new 49 15 (by kernel_rfl)) (H.new 50 16 (by kernel_rfl)) (by omega) ⟨rfl, Below.refl _ _⟩
              · intro ρ W1 hb1 H d hd
                have hd' : (some 41 : Option Tmp) = some d := hd
                injection hd' with hd'
                subst hd'
                refine ⟨fun _ => ?_, fun hne => absurd (H.new 41 7 (by kernel_rfl)) hne⟩
                exact gives_load rfl (H.new 51 17 (by kernel_rfl)) Tryd.underlying32 rfl ((hb1.cell (by rw [add_block]; exact HAB.out)).trans HK0.out) ⟨rfl, Below.refl _ _⟩
              · intro ρ W1 hb1 H d hd
                have hd' : (some 41 : Option Tmp) = some d := hd
                injection hd' with hd'
                subst hd'
                refine ⟨fun _ => ?_, fun hne => absurd (H.new 41 7 (by kernel_rfl)) hne⟩
                have e0 : ρ (.tmp 48) = u := H.new 48 14 (by kernel_rfl)
                have e1 : ρ (.tmp 52) = rv := H.new 52 18 (by kernel_rfl)
                refine gives_call rfl (fun _ _ => by kernel_rfl) (H.func _) (args := #[u, rv]) (by simp [e0, e1]) ?_
                exact (HRE.out W1 hb1).mono fun e w' ⟨h1, h2⟩ => ⟨_, h1, rfl, h2⟩
              · intro ρ W1 hb1 H d hd
                have hd' : (some 41 : Option Tmp) = some d := hd
                injection hd' with hd'
                subst hd'
                refine ⟨fun _ => ?_, fun hne => absurd (H.new 41 7 (by kernel_rfl)) hne⟩
                exact gives_intne rfl (H.new 47 13 (by kernel_rfl)) (H.new 53 19 (by kernel_rfl)) ⟨by simp [facts, Fact.is], Below.refl _ _⟩
              · intro ρ W1 hb1 H
                exact gives_pick_t rfl (H.new 41 7 (by kernel_rfl)) (H.new 54 20 (by kernel_rfl)) ⟨rfl, Below.refl _ _⟩
              · intro vs W1 hb1 hfs
                have f21 : vs 21 = .bool false := hfs 21 (by decide)
                clear hfs
                simp only [putAll, Nat.zero_add, Nat.reduceAdd]
                generalize vs 0 = z0
                generalize vs 1 = z1
                generalize vs 2 = z2
                generalize vs 3 = z3
                generalize vs 4 = z4
                generalize vs 5 = z5
                generalize vs 6 = z6
                generalize vs 7 = z7
                generalize vs 8 = z8
                generalize vs 9 = z9
                generalize vs 10 = z10
                generalize vs 11 = z11
                generalize vs 12 = z12
                generalize vs 13 = z13
                generalize vs 14 = z14
                generalize vs 15 = z15
                generalize vs 16 = z16
                generalize vs 17 = z17
                generalize vs 18 = z18
                generalize vs 19 = z19
                generalize vs 20 = z20
                simp only [f21, Act.put, List.setIfInBounds_toArray, List.set_cons_succ, List.set_cons_zero]
                clear f21
                go_wp2
                go_roundw
                case rel => exact ⟨k + 1, by omega, by omega, by go_num, below_then HBW.out hb1⟩
                case measure => simp [intOf]; omega
            · have HROW := HROW0
              rw [hz] at HROW
              clear hz HROW0 hrow hcell had hr hbw
              go_wp2
              refine wp_region_list [.is (v0), .is (.slice (some ad) n c), .is (.int .i64 (k : Int)), .is (.pointer (some (ad.add (k * 1)))), .is (rv), .is (.int .i64 21), .is (.bool false), .is (.bool false), .any, .any, .any, .any, .any, .any, .any, .any, .any, .any, .any, .any, .any, .is (.bool false)] [some 34, some 35, some 36, some 37, some 38, some 39, some 40, some 41, some 42, some 43, some 44, some 45, some 46, some 47, some 48, some 49, some 50, some 51, some 52, some 53, some 54, some 55] (by kernel_rfl) (by kernel_rfl) (by kernel_rfl) rfl ⟨?_, ?_, ?_, ?_, ?_, ?_, ?_, ?_, ?_, ?_, ?_, ?_, ?_, ?_, ?_, ?_, ?_, ?_, ?_, ?_, ?_, ?_, trivial⟩ ?_
              · intro ρ W1 hb1 H
                exact gives_move rfl (H.old 0 _ (by kernel_rfl) rfl) ⟨rfl, Below.refl _ _⟩
              · intro ρ W1 hb1 H
                exact gives_move rfl (H.old 2 _ (by kernel_rfl) rfl) ⟨rfl, Below.refl _ _⟩
              · intro ρ W1 hb1 H
                exact gives_move rfl (H.old 9 _ (by kernel_rfl) rfl) ⟨rfl, Below.refl _ _⟩
              · intro ρ W1 hb1 H
                exact gives_index_wide (k := k) Tryd.underlying27 row_sizeH rfl (H.new 35 1 (by kernel_rfl)) (H.new 36 2 (by kernel_rfl)) (by omega) ⟨rfl, Below.refl _ _⟩
              · intro ρ W1 hb1 H
                exact gives_load rfl (H.new 37 3 (by kernel_rfl)) Tryd.underlying32 rfl ((hb1.cell (by rw [add_block]; exact HAB.out)).trans HK0.out) ⟨rfl, Below.refl _ _⟩
              · intro ρ W1 hb1 H
                have e0 : ρ (.tmp 34) = v0 := H.new 34 0 (by kernel_rfl)
                have e1 : ρ (.tmp 38) = rv := H.new 38 4 (by kernel_rfl)
                refine gives_call rfl (fun _ _ => by kernel_rfl) (H.func _) (args := #[v0, rv]) (by simp [e0, e1]) ?_
                exact (HROW.out W1 hb1).mono fun e w' ⟨h1, h2⟩ => ⟨_, h1, rfl, h2⟩
              · intro ρ W1 hb1 H
                exact gives_inteq rfl (H.new 39 5 (by kernel_rfl)) (H.const _) ⟨rfl, Below.refl _ _⟩
              · intro ρ W1 hb1 H
                exact gives_move rfl (H.new 40 6 (by kernel_rfl)) ⟨rfl, Below.refl _ _⟩
              · intro ρ W1 hb1 H d hd
                have hd' : (some 41 : Option Tmp) = some d := hd
                injection hd' with hd'
                subst hd'
                exact ⟨(fun hh => by cases hh.symm.trans (H.new 41 7 (by kernel_rfl))), fun _ => trivial⟩
              · intro ρ W1 hb1 H d hd
                have hd' : (some 41 : Option Tmp) = some d := hd
                injection hd' with hd'
                subst hd'
                exact ⟨(fun hh => by cases hh.symm.trans (H.new 41 7 (by kernel_rfl))), fun _ => trivial⟩
              · intro ρ W1 hb1 H d hd
                have hd' : (some 41 : Option Tmp) = some d := hd
                injection hd' with hd'
                subst hd'
                exact ⟨(fun hh => by cases hh.symm.trans (H.new 41 7 (by kernel_rfl))), fun _ => trivial⟩
              · intro ρ W1 hb1 H d hd
                have hd' : (some 41 : Option Tmp) = some d := hd
                injection hd' with hd'
                subst hd'
                exact ⟨(fun hh => by cases hh.symm.trans (H.new 41 7 (by kernel_rfl))), fun _ => trivial⟩
              · intro ρ W1 hb1 H d hd
                have hd' : (some 41 : Option Tmp) = some d := hd
                injection hd' with hd'
                subst hd'
                exact ⟨(fun hh => by cases hh.symm.trans (H.new 41 7 (by kernel_rfl))), fun _ => trivial⟩
              · intro ρ W1 hb1 H d hd
                have hd' : (some 41 : Option Tmp) = some d := hd
                injection hd' with hd'
                subst hd'
                exact ⟨(fun hh => by cases hh.symm.trans (H.new 41 7 (by kernel_rfl))), fun _ => trivial⟩
              · intro ρ W1 hb1 H d hd
                have hd' : (some 41 : Option Tmp) = some d := hd
                injection hd' with hd'
                subst hd'
                exact ⟨(fun hh => by cases hh.symm.trans (H.new 41 7 (by kernel_rfl))), fun _ => trivial⟩
              · intro ρ W1 hb1 H d hd
                have hd' : (some 41 : Option Tmp) = some d := hd
                injection hd' with hd'
                subst hd'
                exact ⟨(fun hh => by cases hh.symm.trans (H.new 41 7 (by kernel_rfl))), fun _ => trivial⟩
              · intro ρ W1 hb1 H d hd
                have hd' : (some 41 : Option Tmp) = some d := hd
                injection hd' with hd'
                subst hd'
                exact ⟨(fun hh => by cases hh.symm.trans (H.new 41 7 (by kernel_rfl))), fun _ => trivial⟩
              · intro ρ W1 hb1 H d hd
                have hd' : (some 41 : Option Tmp) = some d := hd
                injection hd' with hd'
                subst hd'
                exact ⟨(fun hh => by cases hh.symm.trans (H.new 41 7 (by kernel_rfl))), fun _ => trivial⟩
              · intro ρ W1 hb1 H d hd
                have hd' : (some 41 : Option Tmp) = some d := hd
                injection hd' with hd'
                subst hd'
                exact ⟨(fun hh => by cases hh.symm.trans (H.new 41 7 (by kernel_rfl))), fun _ => trivial⟩
              · intro ρ W1 hb1 H d hd
                have hd' : (some 41 : Option Tmp) = some d := hd
                injection hd' with hd'
                subst hd'
                exact ⟨(fun hh => by cases hh.symm.trans (H.new 41 7 (by kernel_rfl))), fun _ => trivial⟩
              · intro ρ W1 hb1 H d hd
                have hd' : (some 41 : Option Tmp) = some d := hd
                injection hd' with hd'
                subst hd'
                exact ⟨(fun hh => by cases hh.symm.trans (H.new 41 7 (by kernel_rfl))), fun _ => trivial⟩
              · intro ρ W1 hb1 H
                exact gives_pick_f rfl (H.new 41 7 (by kernel_rfl)) (H.const _) ⟨rfl, Below.refl _ _⟩
              · intro vs W1 hb1 hfs
                have f21 : vs 21 = .bool false := hfs 21 (by decide)
                clear hfs
                simp only [putAll, Nat.zero_add, Nat.reduceAdd]
                generalize vs 0 = z0
                generalize vs 1 = z1
                generalize vs 2 = z2
                generalize vs 3 = z3
                generalize vs 4 = z4
                generalize vs 5 = z5
                generalize vs 6 = z6
                generalize vs 7 = z7
                generalize vs 8 = z8
                generalize vs 9 = z9
                generalize vs 10 = z10
                generalize vs 11 = z11
                generalize vs 12 = z12
                generalize vs 13 = z13
                generalize vs 14 = z14
                generalize vs 15 = z15
                generalize vs 16 = z16
                generalize vs 17 = z17
                generalize vs 18 = z18
                generalize vs 19 = z19
                generalize vs 20 = z20
                simp only [f21, Act.put, List.setIfInBounds_toArray, List.set_cons_succ, List.set_cons_zero]
                clear f21
                go_wp2
                go_roundw
                case rel => exact ⟨k + 1, by omega, by omega, by go_num, below_then HBW.out hb1⟩
                case measure => simp [intOf]; omega
          · have h20i : ¬ (k : Int) < 20 := by omega
            clear hbw
            go_wp2
            go_ret
            exact ⟨rfl, below_then HB4.out HBW.out⟩
        · have hlti : ¬ (k : Int) < (n : Int) := by omega
          clear hbw
          go_wp2
          go_ret
          exact ⟨rfl, below_then HB4.out HBW.out⟩
    · rw [hz] at HSCH
      clear hz
      go_enter Tryd.func4, Tryd.ntmps4
      go_wp2_with fail
      refine HSH.out.mono ?_
      rintro e w1 ⟨rfl, hb1⟩
      have HB1 := Lib.hid hb1
      have HU1 := Lib.hid (Utf8Tabs_below HU.out hb1)
      have HP1 := Lib.hid (HP.out.below hb1)
      clear hb1
      go_wp2_with fail
      refine (HF.out w1 HP1.out).mono ?_
      rintro e w2 ⟨⟨u, rfl, hu⟩, rfl⟩
      have HP2 := Lib.hid hu
      clear hu
      go_wp2_with fail
      refine (HMAY.out u w1 HU1.out (HC.out.below HB1.out) HP2.out).mono ?_
      rintro e w3 ⟨rfl, hb3⟩
      have HB3 := Lib.hid (below_then HB1.out hb3)
      have HP3 := Lib.hid (HP2.out.below hb3)
      clear hb3
      go_wp2_with fail
      refine (HSCH.out w3 (HC.out.below HB3.out)).mono ?_
      rintro e w4 ⟨rfl, hb4⟩
      have HB4 := Lib.hid (below_then HB3.out hb4)
      have HP4 := Lib.hid (HP3.out.below hb4)
      clear hb4
      go_wp2
      go_ret
      exact ⟨rfl, HB4.out⟩

set_option maxRecDepth 100000 in
theorem PredEvals_lifted (os : Os) (started : os.Started) (H : Type) (enc : TypeId × Value → H) :
    ReturnsInHanded {} Tryd.checked os 4 .any (fun w args => (Rows.predEvalsSpec.pre enc Tryd.prog Tryd.f4 [] false w args ∧ laidMetH Tryd.prog [("unicode/utf8.acceptRanges", Rows.laid_unicode_utf8_acceptRanges), ("unicode/utf8.first", Rows.laid_unicode_utf8_first)] w) ∧ sizedMet enc Tryd.prog Tryd.f4 (OpenSpec.ofChange Rows.predEvalsSpec) false w args) (Rows.predEvalsSpec.post enc Tryd.prog Tryd.f4 false true false false) := by
  refine returnsInHanded_of_change_and (C := Tryd.checked) (X := fun w _ => laidMetH Tryd.prog [("unicode/utf8.acceptRanges", Rows.laid_unicode_utf8_acceptRanges), ("unicode/utf8.first", Rows.laid_unicode_utf8_first)] w) (fun _ _ _ hh h => h.of_heap hh) own started (by kernel_rfl) Tryd.func4
    (ChangeSpec.witness_shaped (enc := enc) (C := Tryd.checked) (os := os) (X := fun w _ => laidMetH Tryd.prog [("unicode/utf8.acceptRanges", Rows.laid_unicode_utf8_acceptRanges), ("unicode/utf8.first", Rows.laid_unicode_utf8_first)] w) false (World.laidAll Tryd.prog os [("unicode/utf8.acceptRanges", Rows.laid_unicode_utf8_acceptRanges), ("unicode/utf8.first", Rows.laid_unicode_utf8_first)]) #[.slice none 0 0, .slice none 0 0, .slice none 0 0] 8 (World.laidAll_os _ _ _) (World.shaped_of_ZipB (by kernel_rfl) (by kernel_rfl)) (by kernel_rfl) (by kernel_rfl) (by kernel_rfl) (by rw [MakeChecks.laidMetH_plain _ _ _ (by kernel_rfl)]; exact laidMet_laidAll _ (by kernel_rfl) (by kernel_rfl))) ?_
  intro W base args ds gs before hval0 hW _ hsz hL _
  have hT := u8_of hL
  clear hL
  have hval : ∀ (j : Nat) t v, Tryd.f4.params[j]? = some t → args[j]? = some v → Value.okWide Tryd.prog W .any base t v := hval0
  have hW' := hW
  obtain ⟨p, q, hT0, hV, rfl, hfz, hnd⟩ := hW
  have hA : DataW.TrodAll enc Tryd.prog W 0 (fun _ => true) true Tryd.f4.params.toList args.toList ds p := hT0
  rw [Tryd.params4] at hA hval
  obtain ⟨v0, vs0, d0, ds0, p0, q0, hargs, rfl, rfl, h0, r0⟩ := trodAll_cons hA
  obtain ⟨v1, vs1, d1, ds1, p1, q1, rfl, rfl, rfl, h1, r1⟩ := trodAll_cons r0
  obtain ⟨v2, vs2, d2, ds2, p2, q2, rfl, rfl, rfl, h2, r2⟩ := trodAll_cons r1
  obtain ⟨rfl, rfl, rfl⟩ := trodAll_nil r2
  obtain rfl : args = #[v0, v1, v2] := by cases args; simp_all
  obtain ⟨rfl, rfl⟩ := trodVars_none hV
  have hlt0 : ∀ x ∈ p0, x.block < W.heap.size := fun x hx => hW'.lt x (by simp [hx])
  obtain ⟨l0, hl0, hp0, hq0⟩ := open_cols (hval 0 22 v0 rfl rfl) h0 hlt0
  have hlt1 : ∀ x ∈ p1, x.block < W.heap.size := fun x hx => hW'.lt x (by simp [hx])
  have hwt1 : Reached Tryd.prog 23 d1 := fun n hn => by simpa using List.all_eq_true.1 hsz n (DataW.weights_mem_each (j := 1) (by kernel_rfl) rfl n hn)
  obtain ⟨l1, hl1⟩ := open_preds hwt1 (hval 1 23 v1 rfl rfl) h1 hlt1
  have hlt2 : ∀ x ∈ p2, x.block < W.heap.size := fun x hx => hW'.lt x (by simp [hx])
  obtain ⟨l2, hl2⟩ := open_rows (hval 2 27 v2 rfl rfl) h2 hlt2
  clear hT0 hval0
  refine (PredEvals_walk W hT v0 l0 hl0 hp0 hq0 v1 l1 hl1 v2 l2 hl2).mono fun e W' ⟨he, hb⟩ => ?_
  subst he
  exact ⟨_, rfl, law_post laidOut Tryd.underlying4 (by kernel_rfl) (by kernel_rfl) rfl hW' rfl hb⟩

theorem PredEvals_over : Rows.predEvalsRow.holds Tryd.pinned (OpenSpec.ofChange Rows.predEvalsSpec) :=
  OpenClaim.holds_of_wide 4 Tryd.f4 rfl rfl rfl rfl rfl rfl rfl ⟨rfl, rfl, rfl, rfl, rfl⟩ rfl rfl rfl rfl rfl (by kernel_rfl) Tryd.func4 (by kernel_rfl)
    (of_decide_eq_true (by kernel_rfl)) (by unfold Func.isWrapper; first | (rw [if_pos (by decide +kernel)]; kernel_rfl) | (rw [if_neg (by decide +kernel)]; exact ⟨rfl, rfl⟩))
    (fun os started H enc _ => PredEvals_lifted os started H enc)

theorem PredEvals_holds : Rows.PredEvalsCardSaid :=
  Claim7.holds_tied_plain_at .later [] _ true _ _ PredEvals_over (fun _ h => by cases h) (by kernel_rfl) (fun _ h => by cases h) predEvals_row_tie rfl ⟨rfl, rfl⟩ (by kernel_rfl) rfl
    (fun f fn hf hfn => by
      obtain rfl : f = 4 := Option.some.inj ((show Tryd.prog.funcNamed "pilaster/pilasterlaw18.PredEvals" = some 4 by kernel_rfl).symm.trans hf) |>.symm
      obtain rfl : fn = Tryd.f4 := (Option.some.inj (Tryd.func4.symm.trans hfn)).symm
      exact ⟨by kernel_rfl, fun j t ht => stand_ins (by kernel_rfl) ht⟩)
    (by kernel_rfl)
#print axioms PredEvals_holds

end Go.Proofs.YtniniophoocalaaDoor
