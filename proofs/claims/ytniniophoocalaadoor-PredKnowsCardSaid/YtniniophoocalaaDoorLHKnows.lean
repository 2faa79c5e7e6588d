
/- The statement PredKnows: for any columns, nodes and stats the law answers true. No condition. Written by gen_pred_laws.py. -/

import Derived.StillTailTactics
import Derived.Test.YtniniophoocalaaDoorG7
namespace Go.Proofs.YtniniophoocalaaDoor

open Go.RowKit Go.ChangeShapes Go.WideShapes Go.ChangeAt

theorem hschK_or (l : List CC) : (kscheme l = 0 ∧ l.length ≤ 6) ∨ kscheme l = 20 := by
  unfold kscheme
  split
  · rename_i h; exact .inl ⟨rfl, h.2.1⟩
  · exact .inr rfl
theorem boolT_run (b : Bool) (W : World) : (binOp .eql 4 (.bool b) (.bool b)).run Tryd.prog W = .ok (.bool true) W := by cases b <;> kernel_rfl
theorem boolT_guard (b : Bool) (x y : Operand) (W : World) : (eqGuard .eql 4 x y (.bool b) (.bool b)).run Tryd.prog W = .ok () W := by cases b <;> kernel_rfl
theorem gives_boolT {o : Oper} {ρ : Operand → Value} {w : World} {R : Value → World → Prop} {t' : TypeId} {x y : Operand} {b : Bool} (ho : o.op = .binOp .eql 4 x y t') (hx : ρ x = .bool b) (hy : ρ y = .bool b) (hR : R (.bool true) w) : Gives Tryd.prog o ρ w R := by
  refine gives_of (v := .bool true) (w' := w) ?_ hR
  simp [execOp, ho, hx, hy, boolT_guard b x y w, boolT_run b w]
def HLawRel (l0 : List CC) (l2 : List GS) (w : World) (v i : Value) (wr : World) : Prop := ∃ k : Nat, k ≤ l0.length ∧ i = .int .i64 (k : Int) ∧ wr.ownsRow w.heap.size 43 10 v k ((l2.take k).flatMap gcells) ∧ Below w.heap.size w wr ∧ ∀ x ∈ l2.take k, 0 ≤ x.count
theorem gmay_cnt {k : Int} {s : GS} (h : gmayE k s = true) : 0 ≤ s.count := by
  unfold gmayE at h
  by_cases hc : 0 ≤ s.count
  · exact hc
  · rw [if_pos (.inl (by omega))] at h; cases h
set_option maxHeartbeats 8000000 in
set_option maxRecDepth 100000 in
theorem PredKnows_walk (w : World) (hU : Tryd.U8 w) (v0 : Value) (l0 : List CC) (h0 : IsR ccells l0 v0 w) (hs0 : ∀ x ∈ l0, x.s.size ≤ maxLen) (_hk0 : ∀ x ∈ l0, -9223372036854775808 ≤ x.kind ∧ x.kind ≤ 9223372036854775807) (v1 : Value) (l1 : List HN) (h1 : IsPreds l1 v1 w) (v2 : Value) (l2 : List GS) (h2 : IsR gcells l2 v2 w) (hs2 : ∀ s ∈ l2, s.inInt ∧ s.min.s.size ≤ maxLen ∧ s.max.s.size ≤ maxLen) :
    Calls Tryd.prog 5 #[v0, v1, v2] w fun e w' => e = .returned (.bool true) ∧ Below w.heap.size w w' := by
  obtain ⟨Ac, nc, cc, rfl⟩ := h0.shape
  obtain ⟨A, n, c, rfl⟩ := h2.shape
  have HU := Lib.hid hU
  have HC := Lib.hid h0
  have HP := Lib.hid h1
  have HS := Lib.hid h2
  have HSS := Lib.hid hs2
  have HCN := Lib.hid h0.parts.1
  have HSN := Lib.hid h2.parts.1
  have hn9 : (n : Int) ≤ 9223372036854775807 := by obtain ⟨_, _, h3, h4, _⟩ := h2.parts; unfold maxLen at h4; omega
  have hnc9 : (nc : Int) ≤ 9223372036854775807 := by obtain ⟨_, _, h3, h4, _⟩ := h0.parts; unfold maxLen at h4; omega
  obtain ⟨m, hm⟩ : ∃ m, m = l1.take 45 := ⟨_, rfl⟩
  have HF := Lib.hid (fun X (h : IsPreds l1 v1 X) => few18_any l1 v1 X h)
  rw [← hm] at HF
  have HMAY := Lib.hid (fun u X (hX : Tryd.U8 X) (hc : IsR ccells l0 (.slice Ac nc cc) X) (hp : IsPreds m u X) => rmay18_any l0 m (.slice Ac nc cc) u X hX hc hp)
  have HSCH := Lib.hid (fun X (hc : IsR ccells l0 (.slice Ac nc cc) X) => rschema12_own l0 (.slice Ac nc cc) X hc hs0)
  have HSH := Lib.hid (shown18_any w hU)
  clear hU h0 h1 h2 hs0 hs2 _hk0 hm
  cases hmay : hpmayE (hpks l0) m with
  | false =>
    rw [hmay] at HMAY
    clear hmay
    go_enter Tryd.func5, Tryd.ntmps5
    go_wp2_with fail
    refine HSH.out.mono ?_
    rintro e w1 ⟨rfl, hb1⟩
    have HB1 := Lib.hid hb1
    have HU1 := Lib.hid (Utf8Tabs_below HU.out hb1)
    have HP1 := Lib.hid (HP.out.below hb1)
    clear hb1
    go_wp2_with fail
    refine (HF.out w1 HP1.out).mono ?_
    rintro e w2 ⟨⟨u, rfl, hu⟩, rfl⟩
    have HP2 := Lib.hid hu
    clear hu
    go_wp2_with fail
    refine (HMAY.out u w1 HU1.out (HC.out.below HB1.out) HP2.out).mono ?_
    rintro e w3 ⟨rfl, hb3⟩
    have HB3 := Lib.hid (below_then HB1.out hb3)
    have HP3 := Lib.hid (HP2.out.below hb3)
    clear hb3
    go_wp2
    go_ret
    exact ⟨rfl, HB3.out⟩
  | true =>
    rw [hmay] at HMAY
    have HOK := Lib.hid (hpmay_ok hmay)
    clear hmay
    rcases hschK_or l0 with ⟨hz, hl6⟩ | hz
    · rw [hz] at HSCH
      have hnc6 : nc ≤ 6 := by have := HCN.out; omega
      clear hz hl6
      by_cases hln : n < nc
      · have hd1 : decide (n < nc) = true := decide_eq_true hln
        have hd2 : decide ((n : Int) < (nc : Int)) = true := decide_eq_true (by omega)
        go_enter Tryd.func5, Tryd.ntmps5
        go_wp2_with fail
        refine HSH.out.mono ?_
        rintro e w1 ⟨rfl, hb1⟩
        have HB1 := Lib.hid hb1
        have HU1 := Lib.hid (Utf8Tabs_below HU.out hb1)
        have HP1 := Lib.hid (HP.out.below hb1)
        clear hb1
        go_wp2_with fail
        refine (HF.out w1 HP1.out).mono ?_
        rintro e w2 ⟨⟨u, rfl, hu⟩, rfl⟩
        have HP2 := Lib.hid hu
        clear hu
        go_wp2_with fail
        refine (HMAY.out u w1 HU1.out (HC.out.below HB1.out) HP2.out).mono ?_
        rintro e w3 ⟨rfl, hb3⟩
        have HB3 := Lib.hid (below_then HB1.out hb3)
        have HP3 := Lib.hid (HP2.out.below hb3)
        clear hb3
        go_wp2_with fail
        refine (HSCH.out w3 (HC.out.below HB3.out)).mono ?_
        rintro e w4 ⟨rfl, hb4⟩
        have HB4 := Lib.hid (below_then HB3.out hb4)
        have HP4 := Lib.hid (HP3.out.below hb4)
        clear hb4
        go_wp2
        go_ret
        exact ⟨rfl, HB4.out⟩
      · have hd1 : decide (n < nc) = false := decide_eq_false hln
        have hd2 : decide ((n : Int) < (nc : Int)) = false := decide_eq_false (by omega)
        go_enter Tryd.func5, Tryd.ntmps5
        go_wp2_with fail
        refine HSH.out.mono ?_
        rintro e w1 ⟨rfl, hb1⟩
        have HB1 := Lib.hid hb1
        have HU1 := Lib.hid (Utf8Tabs_below HU.out hb1)
        have HP1 := Lib.hid (HP.out.below hb1)
        clear hb1
        go_wp2_with fail
        refine (HF.out w1 HP1.out).mono ?_
        rintro e w2 ⟨⟨u, rfl, hu⟩, rfl⟩
        have HP2 := Lib.hid hu
        clear hu
        go_wp2_with fail
        refine (HMAY.out u w1 HU1.out (HC.out.below HB1.out) HP2.out).mono ?_
        rintro e w3 ⟨rfl, hb3⟩
        have HB3 := Lib.hid (below_then HB1.out hb3)
        have HP3 := Lib.hid (HP2.out.below hb3)
        clear hb3
        go_wp2_with fail
        refine (HSCH.out w3 (HC.out.below HB3.out)).mono ?_
        rintro e w4 ⟨rfl, hb4⟩
        have HB4 := Lib.hid (below_then HB3.out hb4)
        have HP4 := Lib.hid (HP3.out.below hb4)
        clear hb4
        have HU4 := Lib.hid (Utf8Tabs_below HU.out HB4.out)
        have HC4 := Lib.hid (HC.out.below HB4.out)
        have HS4 := Lib.hid (HS.out.below HB4.out)
        obtain ⟨eb, heb, hE⟩ := elemGS
        have HEB := Lib.hid hE
        clear hE
        have HST : Hid (HLawRel l0 l2 w4 (.slice (some ⟨w4.heap.size, 0, none⟩) 0 0) (.int .i64 0) (w4.alloc (.cells #[] 43))) := Lib.hid ⟨0, Nat.zero_le _, rfl, ownW_made w4 43 10, (Below.refl _ _).alloc (Nat.le_refl _) _, by simp⟩
        go_wp2
        go_loopw [9, 10] (HLawRel l0 l2 w4) (fun _ i _ => nc - (intOf i).toNat)
        case atStart => exact HST.out
        case round =>
          obtain ⟨k, hk, rfl, hown, hbw, hct⟩ := hrel
          have HCT := Lib.hid hct
          clear hct
          clear HST
          have HBW := Lib.hid hbw
          have HOWN := Lib.hid hown
          have hknc : k ≤ nc := by have := HCN.out; omega
          by_cases hlt : k < nc
          · have hlti : (k : Int) < (nc : Int) := by omega
            have hlt2 : k < n := by omega
            have hlt2i : (k : Int) < (n : Int) := by omega
            have hkl : k < l0.length := by have := HCN.out; omega
            have hkl2 : k < l2.length := by have := HSN.out; omega
            obtain ⟨adc, hAc, hadc, hcc⟩ := (HC4.out.below hbw).at (m := 2) (fun _ => rfl) (by omega) hkl
            obtain ⟨ad, hA, had, hcs⟩ := (HS4.out.below hbw).at (m := 10) (fun _ => rfl) (by omega) hkl2
            subst hAc
            subst hA
            obtain ⟨kd, hkd⟩ : ∃ kd, kd = l0[k].kind := ⟨_, rfl⟩
            obtain ⟨x, hx⟩ : ∃ x, x = l2[k] := ⟨_, rfl⟩
            have HKC : Hid (wr.cell? (adc.add (k * 2 + 1)) = some (.int .i64 kd)) := Lib.hid (by rw [hcc 1 (by omega), hkd]; rfl)
            have HAC := Lib.hid hadc
            have HX := Lib.hid hx
            have HKL2 := Lib.hid hkl2
            have HS4W := Lib.hid (HS4.out.below hbw)
            have HCELL := Lib.hid (show ∀ X, Below wr.heap.size wr X → ∀ i, i < 10 → X.cell? (ad.add (k * 10 + i)) = (gcells x)[i]? from fun X hX i hi => by rw [hX.cell (by rw [add_block]; exact had), hcs i hi, hx])
            have HFL := Lib.hid (show (l2.take (k + 1)).flatMap gcells = (l2.take k).flatMap gcells ++ gcells x by rw [List.take_succ_eq_append_getElem hkl2, List.flatMap_append, ← hx]; simp)
            have hxs := HSS.out x (by rw [hx]; exact List.getElem_mem hkl2)
            obtain ⟨b, hb⟩ : ∃ b, b = gmayE kd x := ⟨_, rfl⟩
            have HMG := Lib.hid (fun X (hX : Below wr.heap.size wr X) => rmay17_any kd x X (Utf8Tabs_below HU4.out (below_then hbw hX)) hxs.2.1 hxs.2.2)
            have HCTB : Hid (b = true → ∀ y ∈ l2.take (k + 1), 0 ≤ y.count) := Lib.hid (fun h y hy => by
              rw [List.take_succ_eq_append_getElem hkl2, List.mem_append] at hy
              rcases hy with hy | hy
              · exact HCT.out y hy
              · rw [List.mem_singleton.1 hy, ← hx]
                exact gmay_cnt (by rw [← hb]; exact h))
            rw [← hb] at HMG
            clear hcc hcs hkd hx hadc had hb hbw hown hxs
            cases b with
            | true =>
              have HCTN := Lib.hid (HCTB.out (by simp))
              go_wp2
              refine wp_region_list [.is (.slice (some adc) nc cc), .is (.int .i64 (k : Int)), .is (.pointer (some (adc.add (k * 2)))), .is (.pointer (some ((adc.add (k * 2)).add 1))), .is (.int .i64 kd), .is (.slice (some ad) n c), .is (.int .i64 (k : Int)), .is (.pointer (some (ad.add (k * 10)))), .is (gsv x), .is (.bool true), .is (.bool true)] [some 41, some 42, some 43, some 44, some 45, some 46, some 47, some 48, some 49, some 50, some 11] (by kernel_rfl) (by kernel_rfl) (by kernel_rfl) rfl ⟨?_, ?_, ?_, ?_, ?_, ?_, ?_, ?_, ?_, ?_, ?_, trivial⟩ ?_
              · intro ρ W1 hb1 H
                exact gives_move rfl (H.old 0 _ (by kernel_rfl) rfl) ⟨rfl, Below.refl _ _⟩
              · intro ρ W1 hb1 H
                exact gives_move rfl (H.old 10 _ (by kernel_rfl) rfl) ⟨rfl, Below.refl _ _⟩
              · intro ρ W1 hb1 H
                exact gives_index_wide (k := k) Tryd.underlying22 col_sizeH rfl (H.new 41 0 (by kernel_rfl)) (H.new 42 1 (by kernel_rfl)) hlt ⟨rfl, Below.refl _ _⟩
              · intro ρ W1 hb1 H
                exact gives_field rfl (H.new 43 2 (by kernel_rfl)) (fun W => col_kindH W _) ⟨rfl, Below.refl _ _⟩
              · intro ρ W1 hb1 H
                exact gives_load rfl (H.new 44 3 (by kernel_rfl)) Tryd.underlying3 rfl (by rw [add_add]; exact (hb1.cell (by rw [add_block]; exact HAC.out)).trans HKC.out) ⟨rfl, Below.refl _ _⟩
              · intro ρ W1 hb1 H
                exact gives_move rfl (H.old 2 _ (by kernel_rfl) rfl) ⟨rfl, Below.refl _ _⟩
              · intro ρ W1 hb1 H
                exact gives_move rfl (H.old 10 _ (by kernel_rfl) rfl) ⟨rfl, Below.refl _ _⟩
              · intro ρ W1 hb1 H
                exact gives_index_wide (k := k) Tryd.underlying36 statsH_size rfl (H.new 46 5 (by kernel_rfl)) (H.new 47 6 (by kernel_rfl)) hlt2 ⟨rfl, Below.refl _ _⟩
              · intro ρ W1 hb1 H
                exact gives_load_wide (cs := gcells x) rfl (H.new 48 7 (by kernel_rfl)) Tryd.underlying43 rfl statsH_size (wideGS_at (HS4W.out.below hb1) HKL2.out HX.out) ⟨rfl, Below.refl _ _⟩
              · intro ρ W1 hb1 H
                have e0 : ρ (.tmp 45) = .int .i64 kd := H.new 45 4 (by kernel_rfl)
                have e1 : ρ (.tmp 49) = gsv x := H.new 49 8 (by kernel_rfl)
                refine gives_call rfl (fun _ _ => by kernel_rfl) (H.func _) (args := #[.int .i64 kd, gsv x]) (by simp [e0, e1]) ?_
                exact (HMG.out W1 hb1).mono fun e w' ⟨h1, h2⟩ => ⟨_, h1, rfl, h2⟩
              · intro ρ W1 hb1 H
                exact gives_assign rfl (H.new 50 9 (by kernel_rfl)) ⟨rfl, Below.refl _ _⟩
              · intro vs W1 hb1 hfs
                have f10 : vs 10 = .bool true := hfs 10 (by decide)
                clear hfs
                simp only [putAll, Nat.zero_add, Nat.reduceAdd]
                generalize vs 0 = z0
                generalize vs 1 = z1
                generalize vs 2 = z2
                generalize vs 3 = z3
                generalize vs 4 = z4
                generalize vs 5 = z5
                generalize vs 6 = z6
                generalize vs 7 = z7
                generalize vs 8 = z8
                generalize vs 9 = z9
                simp only [f10, Act.put, List.setIfInBounds_toArray, List.set_cons_succ, List.set_cons_zero]
                clear f10
                have hownP := own_below HOWN.out hb1
                have hbP := below_then HBW.out hb1
                have hzP := hbP.size
                have hcell := HCELL.out W1 hb1
                have k0 := (cells10 hcell 0 (by omega)).1
                have k1 := (cells10 hcell 0 (by omega)).2
                have k2 := (cells10 hcell 1 (by omega)).2
                have k3 := (cells10 hcell 2 (by omega)).2
                have k4 := (cells10 hcell 3 (by omega)).2
                have k5 := (cells10 hcell 4 (by omega)).2
                have k6 := (cells10 hcell 5 (by omega)).2
                have k7 := (cells10 hcell 6 (by omega)).2
                have k8 := (cells10 hcell 7 (by omega)).2
                have k9 := (cells10 hcell 8 (by omega)).2
                obtain ⟨gc, gh, ⟨mb, mn, ms⟩, ⟨xb, xn, xs⟩, gsm, go⟩ := x
                dsimp only [gcells] at k0 k1 k2 k3 k4 k5 k6 k7 k8 k9
                clear hcell hb1
                go_wp2_with (at_builtin; refine wpList_pushG HEB.out rfl _ _ rfl w4.heap.size _ _ _ (gcells ⟨gc, gh, ⟨mb, mn, ms⟩, ⟨xb, xn, xs⟩, gsm, go⟩) W1 w4 _ rfl rfl rfl rfl rfl (gcells_one _) hownP hbP hzP (by omega) heb ?_)
                intro v7 w7 ho7 hb7 _ _
                have HREL := Lib.hid (show HLawRel l0 l2 w4 v7 (.int .i64 ((k + 1 : Nat) : Int)) w7 from ⟨k + 1, hkl, rfl, by rw [HFL.out]; exact ho7, hb7, HCTN.out⟩)
                clear ho7 hb7 hownP hbP hzP k0 k1 k2 k3 k4 k5 k6 k7 k8 k9
                go_wp2
                go_roundw
                case rel => exact HREL.out
                case measure => simp [intOf]; omega
            | false =>
              go_wp2
              refine wp_region_list [.is (.slice (some adc) nc cc), .is (.int .i64 (k : Int)), .is (.pointer (some (adc.add (k * 2)))), .is (.pointer (some ((adc.add (k * 2)).add 1))), .is (.int .i64 kd), .is (.slice (some ad) n c), .is (.int .i64 (k : Int)), .is (.pointer (some (ad.add (k * 10)))), .is (gsv x), .is (.bool false), .is (.bool false)] [some 41, some 42, some 43, some 44, some 45, some 46, some 47, some 48, some 49, some 50, some 11] (by kernel_rfl) (by kernel_rfl) (by kernel_rfl) rfl ⟨?_, ?_, ?_, ?_, ?_, ?_, ?_, ?_, ?_, ?_, ?_, trivial⟩ ?_
              · intro ρ W1 hb1 H
                exact gives_move rfl (H.old 0 _ (by kernel_rfl) rfl) ⟨rfl, Below.refl _ _⟩
              · intro ρ W1 hb1 H
                exact gives_move rfl (H.old 10 _ (by kernel_rfl) rfl) ⟨rfl, Below.refl _ _⟩
              · intro ρ W1 hb1 H
                exact gives_index_wide (k := k) Tryd.underlying22 col_sizeH rfl (H.new 41 0 (by kernel_rfl)) (H.new 42 1 (by kernel_rfl)) hlt ⟨rfl, Below.refl _ _⟩
              · intro ρ W1 hb1 H
                exact gives_field rfl (H.new 43 2 (by kernel_rfl)) (fun W => col_kindH W _) ⟨rfl, Below.refl _ _⟩
              · intro ρ W1 hb1 H
                exact gives_load rfl (H.new 44 3 (by kernel_rfl)) Tryd.underlying3 rfl (by rw [add_add]; exact (hb1.cell (by rw [add_block]; exact HAC.out)).trans HKC.out) ⟨rfl, Below.refl _ _⟩
              · intro ρ W1 hb1 H
                exact gives_move rfl (H.old 2 _ (by kernel_rfl) rfl) ⟨rfl, Below.refl _ _⟩
              · intro ρ W1 hb1 H
                exact gives_move rfl (H.old 10 _ (by kernel_rfl) rfl) ⟨rfl, Below.refl _ _⟩
              · intro ρ W1 hb1 H
                exact gives_index_wide (k := k) Tryd.underlying36 statsH_size rfl (H.new 46 5 (by kernel_rfl)) (H.new 47 6 (by kernel_rfl)) hlt2 ⟨rfl, Below.refl _ _⟩
              · intro ρ W1 hb1 H
                exact gives_load_wide (cs := gcells x) rfl (H.new 48 7 (by kernel_rfl)) Tryd.underlying43 rfl statsH_size (wideGS_at (HS4W.out.below hb1) HKL2.out HX.out) ⟨rfl, Below.refl _ _⟩
              · intro ρ W1 hb1 H
                have e0 : ρ (.tmp 45) = .int .i64 kd := H.new 45 4 (by kernel_rfl)
                have e1 : ρ (.tmp 49) = gsv x := H.new 49 8 (by kernel_rfl)
                refine gives_call rfl (fun _ _ => by kernel_rfl) (H.func _) (args := #[.int .i64 kd, gsv x]) (by simp [e0, e1]) ?_
                exact (HMG.out W1 hb1).mono fun e w' ⟨h1, h2⟩ => ⟨_, h1, rfl, h2⟩
              · intro ρ W1 hb1 H
                exact gives_assign rfl (H.new 50 9 (by kernel_rfl)) ⟨rfl, Below.refl _ _⟩
              · intro vs W1 hb1 hfs
                have f10 : vs 10 = .bool false := hfs 10 (by decide)
                clear hfs
                simp only [putAll, Nat.zero_add, Nat.reduceAdd]
                generalize vs 0 = z0
                generalize vs 1 = z1
                generalize vs 2 = z2
                generalize vs 3 = z3
                generalize vs 4 = z4
                generalize vs 5 = z5
                generalize vs 6 = z6
                generalize vs 7 = z7
                generalize vs 8 = z8
                generalize vs 9 = z9
                simp only [f10, Act.put, List.setIfInBounds_toArray, List.set_cons_succ, List.set_cons_zero]
                clear f10
                have HBE := Lib.hid (below_then HB4.out (below_then HBW.out hb1))
                clear hb1
                go_wp2
                go_ret
                exact ⟨rfl, HBE.out⟩
          · obtain rfl : k = nc := by omega
            have hlti : ¬ (k : Int) < (k : Int) := by omega
            have HI := Lib.hid (isR_own (m := 10) (f := gcells) (fun _ => rfl) (by omega) hown)
            have hls : (l2.take k).length = k := by rw [List.length_take]; have := HSN.out; omega
            have HLS := Lib.hid hls
            have HSS2 := Lib.hid (show ∀ s ∈ l2.take k, s.inInt ∧ s.min.s.size ≤ maxLen ∧ s.max.s.size ≤ maxLen from fun s hs => HSS.out s (List.mem_of_mem_take hs))
            have hkn : (hpks l0).length = k := by unfold hpks; rw [List.length_map]; exact HCN.out
            have HKN := Lib.hid hkn
            have HPW := Lib.hid ((HP4.out.below hbw))
            have HBQ := Lib.hid (below_then HB4.out hbw)
            obtain ⟨T, hT⟩ : ∃ T, T = hpoutE m (l2.take k) := ⟨_, rfl⟩
            have HRO := routs18_any (hpks l0) m (l2.take k) u u9 wr HPW.out HI.out HOK.out.2.2 HOK.out.1 HOK.out.2.1 (by rw [hkn, hls]; exact Nat.le_refl _) (by omega)
            have HPO0 := Lib.hid (fun X (hX : Below wr.heap.size wr X) => hpouts_any (hpks l0) m (l2.take k) u u9 X (Utf8Tabs_below HU.out (below_then HBQ.out hX)) (HPW.out.below hX) (HI.out.below hX) HSS2.out HCT.out HOK.out.2.2 HOK.out.1 HOK.out.2.1 (by rw [HKN.out, HLS.out]; exact Nat.le_refl _) (by have := HLS.out; omega))
            have HPM0 := Lib.hid (fun X (hX : Below wr.heap.size wr X) => hpmatch_any (hpks l0) m (l2.take k) u u9 X (Utf8Tabs_below HU.out (below_then HBQ.out hX)) (HPW.out.below hX) (HI.out.below hX) HSS2.out HCT.out HOK.out.2.2 HOK.out.1 HOK.out.2.1 (by rw [HKN.out, HLS.out]; exact Nat.le_refl _) (by have := HLS.out; omega))
            rw [← hT] at HRO HPO0 HPM0
            have HRO2 := Lib.hid HRO
            clear hown hbw hls hkn hT HRO
            go_wp2_with fail
            refine HRO2.out.mono ?_
            rintro e w5 ⟨rfl, hb5⟩
            obtain ⟨g2, hg2⟩ : ∃ g2, g2 = w5.heap.size := ⟨_, rfl⟩
            obtain ⟨w6, hw6⟩ : ∃ x, x = w5.alloc (.cells #[.bool T.no, .bool T.un, .bool T.yes] 44) := ⟨_, rfl⟩
            have HRT := Lib.hid (show Row w6 g2 44 (t3c T) by rw [hw6, hg2]; exact heap_alloc_new w5 _)
            have HB56 := Lib.hid (below_then hb5 (show Below w5.heap.size w5 w6 by rw [hw6]; exact (Below.refl _ _).alloc (Nat.le_refl _) _))
            unfold t3v
            go_wp2_with fail
            rw [← hw6, ← hg2]
            have HB6 := Lib.hid (below_then HBQ.out HB56.out)
            have HPO := Lib.hid (fun X (hX : Below w6.heap.size w6 X) => HPO0.out X (below_then HB56.out hX))
            have HPM := Lib.hid (fun X (hX : Below w6.heap.size w6 X) => HPM0.out X (below_then HB56.out hX))
            clear hw6 hg2 hb5
            refine wp_region_list [.is (.bool true), .is (.bool true), .is (u), .is (u9), .is (t3v T), .is (t3v T), .is (.bool true), .is (.bool true), .is (.bool true), .is (u), .is (u9), .is (.bool T.yes), .is (.pointer (some ⟨g2, 2, none⟩)), .is (.bool T.yes), .is (.bool true), .is (.bool true), .is (.bool true)] [some 64, some 65, some 66, some 67, some 68, some 69, some 70, some 71, some 72, some 73, some 74, some 75, some 76, some 77, some 78, some 79, some 6] (by kernel_rfl) (by kernel_rfl) (by kernel_rfl) rfl ⟨?_, ?_, ?_, ?_, ?_, ?_, ?_, ?_, ?_, ?_, ?_, ?_, ?_, ?_, ?_, ?_, ?_, trivial⟩ ?_
            · intro ρ W1 hb1 H
              exact gives_move rfl (H.old 7 _ (by kernel_rfl) rfl) ⟨rfl, Below.refl _ _⟩
            · intro ρ W1 hb1 H
              exact gives_move rfl (H.new 64 0 (by kernel_rfl)) ⟨rfl, Below.refl _ _⟩
            · intro ρ W1 hb1 H d hd
              have hd' : (some 65 : Option Tmp) = some d := hd
              injection hd' with hd'
              subst hd'
              refine ⟨fun _ => ?_, fun hne => absurd (H.new 65 1 (by kernel_rfl)) hne⟩
              exact gives_move rfl (H.old 1 _ (by kernel_rfl) rfl) ⟨rfl, Below.refl _ _⟩
            · intro ρ W1 hb1 H d hd
              have hd' : (some 65 : Option Tmp) = some d := hd
              injection hd' with hd'
              subst hd'
              refine ⟨fun _ => ?_, fun hne => absurd (H.new 65 1 (by kernel_rfl)) hne⟩
              exact gives_move rfl (H.old 9 _ (by kernel_rfl) rfl) ⟨rfl, Below.refl _ _⟩
            · intro ρ W1 hb1 H d hd
              have hd' : (some 65 : Option Tmp) = some d := hd
              injection hd' with hd'
              subst hd'
              refine ⟨fun _ => ?_, fun hne => absurd (H.new 65 1 (by kernel_rfl)) hne⟩
              have e0 : ρ (.tmp 66) = u := H.new 66 2 (by kernel_rfl)
              have e1 : ρ (.tmp 67) = u9 := H.new 67 3 (by kernel_rfl)
              refine gives_call rfl (fun _ _ => by kernel_rfl) (H.func _) (args := #[u, u9]) (by simp [e0, e1]) ?_
              exact (HPO.out W1 hb1).mono fun e w' ⟨h1, h2⟩ => ⟨_, h1, rfl, h2⟩
            · intro ρ W1 hb1 H d hd
              have hd' : (some 65 : Option Tmp) = some d := hd
              injection hd' with hd'
              subst hd'
              refine ⟨fun _ => ?_, fun hne => absurd (H.new 65 1 (by kernel_rfl)) hne⟩
              exact gives_load_wide (cs := t3c T) rfl (H.old 12 _ (by kernel_rfl) rfl) Tryd.underlying44 rfl Tryd.sizeOf44 (fun q v hq => by rw [show (⟨g2, 0, none⟩ : Addr).add q = ⟨g2, q, none⟩ by unfold Addr.add; split <;> simp_all, (HRT.out.below hb1 HRT.out.lt).cell q]; exact hq) ⟨rfl, Below.refl _ _⟩
            · intro ρ W1 hb1 H d hd
              have hd' : (some 65 : Option Tmp) = some d := hd
              injection hd' with hd'
              subst hd'
              refine ⟨fun _ => ?_, fun hne => absurd (H.new 65 1 (by kernel_rfl)) hne⟩
              exact gives_eqT3 rfl (H.new 68 4 (by kernel_rfl)) (H.new 69 5 (by kernel_rfl)) ⟨rfl, Below.refl _ _⟩
            · intro ρ W1 hb1 H
              exact gives_pick_t rfl (H.new 65 1 (by kernel_rfl)) (H.new 70 6 (by kernel_rfl)) ⟨rfl, Below.refl _ _⟩
            · intro ρ W1 hb1 H
              exact gives_move rfl (H.new 71 7 (by kernel_rfl)) ⟨rfl, Below.refl _ _⟩
            · intro ρ W1 hb1 H d hd
              have hd' : (some 72 : Option Tmp) = some d := hd
              injection hd' with hd'
              subst hd'
              refine ⟨fun _ => ?_, fun hne => absurd (H.new 72 8 (by kernel_rfl)) hne⟩
              exact gives_move rfl (H.old 1 _ (by kernel_rfl) rfl) ⟨rfl, Below.refl _ _⟩
            · intro ρ W1 hb1 H d hd
              have hd' : (some 72 : Option Tmp) = some d := hd
              injection hd' with hd'
              subst hd'
              refine ⟨fun _ => ?_, fun hne => absurd (H.new 72 8 (by kernel_rfl)) hne⟩
              exact gives_move rfl (H.old 9 _ (by kernel_rfl) rfl) ⟨rfl, Below.refl _ _⟩
            · intro ρ W1 hb1 H d hd
              have hd' : (some 72 : Option Tmp) = some d := hd
              injection hd' with hd'
              subst hd'
              refine ⟨fun _ => ?_, fun hne => absurd (H.new 72 8 (by kernel_rfl)) hne⟩
              have e0 : ρ (.tmp 73) = u := H.new 73 9 (by kernel_rfl)
              have e1 : ρ (.tmp 74) = u9 := H.new 74 10 (by kernel_rfl)
              refine gives_call rfl (fun _ _ => by kernel_rfl) (H.func _) (args := #[u, u9]) (by simp [e0, e1]) ?_
              exact (HPM.out W1 hb1).mono fun e w' ⟨h1, h2⟩ => ⟨_, h1, rfl, h2⟩
            · intro ρ W1 hb1 H d hd
              have hd' : (some 72 : Option Tmp) = some d := hd
              injection hd' with hd'
              subst hd'
              refine ⟨fun _ => ?_, fun hne => absurd (H.new 72 8 (by kernel_rfl)) hne⟩
              exact gives_index_arr (k := 2) Tryd.underlying44 Tryd.sizeOf4 rfl (H.old 12 _ (by kernel_rfl) rfl) (H.const _) (by omega) ⟨rfl, Below.refl _ _⟩
            · intro ρ W1 hb1 H d hd
              have hd' : (some 72 : Option Tmp) = some d := hd
              injection hd' with hd'
              subst hd'
              refine ⟨fun _ => ?_, fun hne => absurd (H.new 72 8 (by kernel_rfl)) hne⟩
              exact gives_load rfl (H.new 76 12 (by kernel_rfl)) Tryd.underlying4 rfl ((HRT.out.below hb1 HRT.out.lt).cell 2) ⟨rfl, Below.refl _ _⟩
            · intro ρ W1 hb1 H d hd
              have hd' : (some 72 : Option Tmp) = some d := hd
              injection hd' with hd'
              subst hd'
              refine ⟨fun _ => ?_, fun hne => absurd (H.new 72 8 (by kernel_rfl)) hne⟩
              exact gives_boolT rfl (H.new 75 11 (by kernel_rfl)) (H.new 77 13 (by kernel_rfl)) ⟨rfl, Below.refl _ _⟩
            · intro ρ W1 hb1 H
              exact gives_pick_t rfl (H.new 72 8 (by kernel_rfl)) (H.new 78 14 (by kernel_rfl)) ⟨rfl, Below.refl _ _⟩
            · intro ρ W1 hb1 H
              exact gives_assign rfl (H.new 79 15 (by kernel_rfl)) ⟨rfl, Below.refl _ _⟩
            · intro vs W1 hb1 hfs
              have f16 : vs 16 = .bool true := hfs 16 (by decide)
              clear hfs
              simp only [putAll, Nat.zero_add, Nat.reduceAdd]
              generalize vs 0 = z0
              generalize vs 1 = z1
              generalize vs 2 = z2
              generalize vs 3 = z3
              generalize vs 4 = z4
              generalize vs 5 = z5
              generalize vs 6 = z6
              generalize vs 7 = z7
              generalize vs 8 = z8
              generalize vs 9 = z9
              generalize vs 10 = z10
              generalize vs 11 = z11
              generalize vs 12 = z12
              generalize vs 13 = z13
              generalize vs 14 = z14
              generalize vs 15 = z15
              simp only [f16, Act.put, List.setIfInBounds_toArray, List.set_cons_succ, List.set_cons_zero]
              clear f16
              have HBE := Lib.hid (below_then HB6.out hb1)
              clear hb1
              go_wp2
              go_ret
              exact ⟨rfl, HBE.out⟩
    · rw [hz] at HSCH
      clear hz
      go_enter Tryd.func5, Tryd.ntmps5
      go_wp2_with fail
      refine HSH.out.mono ?_
      rintro e w1 ⟨rfl, hb1⟩
      have HB1 := Lib.hid hb1
      have HU1 := Lib.hid (Utf8Tabs_below HU.out hb1)
      have HP1 := Lib.hid (HP.out.below hb1)
      clear hb1
      go_wp2_with fail
      refine (HF.out w1 HP1.out).mono ?_
      rintro e w2 ⟨⟨u, rfl, hu⟩, rfl⟩
      have HP2 := Lib.hid hu
      clear hu
      go_wp2_with fail
      refine (HMAY.out u w1 HU1.out (HC.out.below HB1.out) HP2.out).mono ?_
      rintro e w3 ⟨rfl, hb3⟩
      have HB3 := Lib.hid (below_then HB1.out hb3)
      have HP3 := Lib.hid (HP2.out.below hb3)
      clear hb3
      go_wp2_with fail
      refine (HSCH.out w3 (HC.out.below HB3.out)).mono ?_
      rintro e w4 ⟨rfl, hb4⟩
      have HB4 := Lib.hid (below_then HB3.out hb4)
      have HP4 := Lib.hid (HP3.out.below hb4)
      clear hb4
      go_wp2
      go_ret
      exact ⟨rfl, HB4.out⟩

set_option maxRecDepth 100000 in
theorem PredKnows_lifted (os : Os) (started : os.Started) (H : Type) (enc : TypeId × Value → H) :
    ReturnsInHanded {} Tryd.checked os 5 .any (fun w args => (Rows.predKnowsSpec.pre enc Tryd.prog Tryd.f5 [] false w args ∧ laidMetH Tryd.prog [("unicode/utf8.acceptRanges", Rows.laid_unicode_utf8_acceptRanges), ("unicode/utf8.first", Rows.laid_unicode_utf8_first)] w) ∧ sizedMet enc Tryd.prog Tryd.f5 (OpenSpec.ofChange Rows.predKnowsSpec) false w args) (Rows.predKnowsSpec.post enc Tryd.prog Tryd.f5 false true false false) := by
  refine returnsInHanded_of_change_and (C := Tryd.checked) (X := fun w _ => laidMetH Tryd.prog [("unicode/utf8.acceptRanges", Rows.laid_unicode_utf8_acceptRanges), ("unicode/utf8.first", Rows.laid_unicode_utf8_first)] w) (fun _ _ _ hh h => h.of_heap hh) own started (by kernel_rfl) Tryd.func5
    (ChangeSpec.witness_shaped (enc := enc) (C := Tryd.checked) (os := os) (X := fun w _ => laidMetH Tryd.prog [("unicode/utf8.acceptRanges", Rows.laid_unicode_utf8_acceptRanges), ("unicode/utf8.first", Rows.laid_unicode_utf8_first)] w) false (World.laidAll Tryd.prog os [("unicode/utf8.acceptRanges", Rows.laid_unicode_utf8_acceptRanges), ("unicode/utf8.first", Rows.laid_unicode_utf8_first)]) #[.slice none 0 0, .slice none 0 0, .slice none 0 0] 8 (World.laidAll_os _ _ _) (World.shaped_of_ZipB (by kernel_rfl) (by kernel_rfl)) (by kernel_rfl) (by kernel_rfl) (by kernel_rfl) (by rw [MakeChecks.laidMetH_plain _ _ _ (by kernel_rfl)]; exact laidMet_laidAll _ (by kernel_rfl) (by kernel_rfl))) ?_
  intro W base args ds gs before hval0 hW _ hsz hL _
  have hT := u8_of hL
  clear hL
  have hval : ∀ (j : Nat) t v, Tryd.f5.params[j]? = some t → args[j]? = some v → Value.okWide Tryd.prog W .any base t v := hval0
  have hW' := hW
  obtain ⟨p, q, hT0, hV, rfl, hfz, hnd⟩ := hW
  have hA : DataW.TrodAll enc Tryd.prog W 0 (fun _ => true) true Tryd.f5.params.toList args.toList ds p := hT0
  rw [Tryd.params5] at hA hval
  obtain ⟨v0, vs0, d0, ds0, p0, q0, hargs, rfl, rfl, h0, r0⟩ := trodAll_cons hA
  obtain ⟨v1, vs1, d1, ds1, p1, q1, rfl, rfl, rfl, h1, r1⟩ := trodAll_cons r0
  obtain ⟨v2, vs2, d2, ds2, p2, q2, rfl, rfl, rfl, h2, r2⟩ := trodAll_cons r1
  obtain ⟨rfl, rfl, rfl⟩ := trodAll_nil r2
  obtain rfl : args = #[v0, v1, v2] := by cases args; simp_all
  obtain ⟨rfl, rfl⟩ := trodVars_none hV
  have hlt0 : ∀ x ∈ p0, x.block < W.heap.size := fun x hx => hW'.lt x (by simp [hx])
  obtain ⟨l0, hl0, hp0, hq0⟩ := open_cols (hval 0 22 v0 rfl rfl) h0 hlt0
  have hlt1 : ∀ x ∈ p1, x.block < W.heap.size := fun x hx => hW'.lt x (by simp [hx])
  have hwt1 : Reached Tryd.prog 23 d1 := fun n hn => by simpa using List.all_eq_true.1 hsz n (DataW.weights_mem_each (j := 1) (by kernel_rfl) rfl n hn)
  obtain ⟨l1, hl1⟩ := open_preds hwt1 (hval 1 23 v1 rfl rfl) h1 hlt1
  have hlt2 : ∀ x ∈ p2, x.block < W.heap.size := fun x hx => hW'.lt x (by simp [hx])
  obtain ⟨l2, hl2, hp2⟩ := open_statss (hval 2 36 v2 rfl rfl) h2 hlt2
  clear hT0 hval0
  refine (PredKnows_walk W hT v0 l0 hl0 hp0 hq0 v1 l1 hl1 v2 l2 hl2 hp2).mono fun e W' ⟨he, hb⟩ => ?_
  subst he
  exact ⟨_, rfl, law_post laidOut Tryd.underlying4 (by kernel_rfl) (by kernel_rfl) rfl hW' rfl hb⟩

theorem PredKnows_over : Rows.predKnowsRow.holds Tryd.pinned (OpenSpec.ofChange Rows.predKnowsSpec) :=
  OpenClaim.holds_of_wide 5 Tryd.f5 rfl rfl rfl rfl rfl rfl rfl ⟨rfl, rfl, rfl, rfl, rfl⟩ rfl rfl rfl rfl rfl (by kernel_rfl) Tryd.func5 (by kernel_rfl)
    (of_decide_eq_true (by kernel_rfl)) (by unfold Func.isWrapper; first | (rw [if_pos (by decide +kernel)]; kernel_rfl) | (rw [if_neg (by decide +kernel)]; exact ⟨rfl, rfl⟩))
    (fun os started H enc _ => PredKnows_lifted os started H enc)

theorem PredKnows_holds : Rows.PredKnowsCardSaid :=
  Claim7.holds_tied_plain_at .later [] _ true _ _ PredKnows_over (fun _ h => by cases h) (by kernel_rfl) (fun _ h => by cases h) predKnows_row_tie rfl ⟨rfl, rfl⟩ (by kernel_rfl) rfl
    (fun f fn hf hfn => by
      obtain rfl : f = 5 := Option.some.inj ((show Tryd.prog.funcNamed "pilaster/pilasterlaw18.PredKnows" = some 5 by kernel_rfl).symm.trans hf) |>.symm
      obtain rfl : fn = Tryd.f5 := (Option.some.inj (Tryd.func5.symm.trans hfn)).symm
      exact ⟨by kernel_rfl, fun j t ht => stand_ins (by kernel_rfl) ht⟩)
    (by kernel_rfl)
#print axioms PredKnows_holds

end Go.Proofs.YtniniophoocalaaDoor
