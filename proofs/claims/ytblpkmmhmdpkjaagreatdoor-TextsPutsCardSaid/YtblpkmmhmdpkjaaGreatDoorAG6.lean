/- Texts that the claims of this seat share, part 6: PRPut PRTake PLow PBase PFill PCut PLay. -/
import Derived.Test.YtblpkmmhmdpkjaaGreatDoorAG5
/- The contract of layer 10's reference's Put. -/





namespace Go.Proofs.YtblpkmmhmdpkjaaGreatDoor

open Go.RowKit

theorem pputE_no {l : List Int} {W : Int} {s : Bool} (h : dplain l s = none ∨ l.length < 1 ∨ 512 < l.length ∨ wcode W < 0 ∨ 64 ≤ W) : pputE l W s = ([], 1) := by unfold pputE; rw [if_pos h]
theorem pputE_ups {l : List Int} {W : Int} {s : Bool} (h : pups l = none) : pputE l W s = ([], 1) := by unfold pputE; split <;> simp [h]
theorem pputE_some {l : List Int} {W : Nat} {s : Bool} {us : List Nat} (h0 : dplain l s ≠ none) (h1 : 1 ≤ l.length) (h2 : l.length ≤ 512) (h3 : 0 ≤ wcode (W : Int)) (h4 : W < 64) (h : pups l = some us) :
    pputE l W s = if pbase l = -9223372036854775808 ∨ 31 < (ppairs W us).length ∨ 64 < pgw (ppairs W us) + ppw (ppairs W us) ∨ 64 < W + ppw (ppairs W us) then ([], 1) else (play (pbase l) us W, 0) := by
  unfold pputE
  rw [if_neg (by rintro (h | h | h | h | h) <;> first | exact h0 h | omega), h, Int.toNat_natCast]
theorem wcode_range {W : Int} (h : 0 ≤ wcode W) : 1 ≤ W ∧ W ≤ 64 := by
  obtain ⟨h1, h2⟩ := wcode_back h
  obtain ⟨c, hc⟩ := Int.eq_ofNat_of_zero_le h
  rw [hc] at h1 h2
  have h3 := wback ⟨c, by omega⟩
  dsimp only at h3
  have h4 := wof_bd (c : Int)
  rw [h1] at h3 h4
  omega
def PRowRel (L : List Nat) (w : World) (v i : Value) (wr : World) : Prop := ∃ k : Nat, k ≤ L.length ∧ i = .int .i64 (k : Int) ∧ wr.ownsRow w.heap.size 101 1 v k ((L.take k).map uv) ∧ Below w.heap.size w wr
def GRel (ps : List (Nat × Nat)) (w : World) (g i : Value) (wr : World) : Prop := ∃ k : Nat, k ≤ ps.length ∧ i = .int .i64 (k : Int) ∧ g = .int .i64 ((max 1 (wmost ((ps.map (·.1)).take k)) : Nat) : Int) ∧ wr = w
set_option maxHeartbeats 8000000 in
set_option maxRecDepth 100000 in
theorem rput10_any (l : List Int) (v : Value) (Wi : Int) (s : Bool) (w : World) (hv : IsV iv l v w) (hl : ∀ x ∈ l, inInt x) (hb : l.length ≤ 1000000) :
    Calls Tryz.prog 55 #[v, .int .i64 Wi, .bool s] w (RetE w (pputE l Wi s)) := by
  have HP := Lib.hid (rplain8_any l v s w hv hl hb)
  have HVV := Lib.hid hv
  obtain ⟨A, n, c, rfl⟩ := hv.shape
  have hn := hv.parts.1
  have HN := Lib.hid hn
  have HL := Lib.hid hl
  clear hv
  cases hd : dplain l s with
  | none =>
    have hE := Lib.hid (pputE_no (W := Wi) (.inl hd))
    have hpe : dplainE l s = ([], 1) := by unfold dplainE; rw [hd]
    rw [hpe] at HP
    clear hn hd hpe hl hb
    go_enter Tryz.func55, Tryz.ntmps55
    go_wp2_with fail
    refine HP.out.mono ?_
    rintro e w1 ⟨u, rfl, hu, hb1⟩
    obtain ⟨A1, c1, rfl, _⟩ := hu
    have HB := Lib.hid hb1
    have HV := Lib.hid (HVV.out.below hb1)
    clear hb1
    go_wp2_with (go_at_call 78; refine (rcode_any _ _).mono ?_; rintro e w' ⟨rfl, rfl⟩)
    go_ret2
    rw [hE.out]
    exact RetE.nil _ HB.out
  | some dl =>
    have hpe : dplainE l s = (dl, 0) := by unfold dplainE; rw [hd]
    rw [hpe] at HP
    by_cases h1 : n < 1
    · have hE := Lib.hid (pputE_no (l := l) (W := Wi) (s := s) (.inr (.inl (by omega))))
      have d1 : decide ((n : Int) < 1) = true := decide_eq_true (by omega)
      clear hn hd hpe hl hb
      go_enter Tryz.func55, Tryz.ntmps55
      go_wp2_with fail
      refine HP.out.mono ?_
      rintro e w1 ⟨u, rfl, hu, hb1⟩
      obtain ⟨A1, c1, rfl, _⟩ := hu
      have HB := Lib.hid hb1
      have HV := Lib.hid (HVV.out.below hb1)
      clear hb1
      go_wp2_with (go_at_call 78; refine (rcode_any _ _).mono ?_; rintro e w' ⟨rfl, rfl⟩)
      go_ret2
      rw [hE.out]
      exact RetE.nil _ HB.out
    · have d1 : decide ((n : Int) < 1) = false := decide_eq_false (by omega)
      by_cases h5 : 512 < n
      · have hE := Lib.hid (pputE_no (l := l) (W := Wi) (s := s) (.inr (.inr (.inl (by omega)))))
        have d2 : decide ((512 : Int) < (n : Int)) = true := decide_eq_true (by omega)
        clear hn hd hpe hl hb
        go_enter Tryz.func55, Tryz.ntmps55
        go_wp2_with fail
        refine HP.out.mono ?_
        rintro e w1 ⟨u, rfl, hu, hb1⟩
        obtain ⟨A1, c1, rfl, _⟩ := hu
        have HB := Lib.hid hb1
        have HV := Lib.hid (HVV.out.below hb1)
        clear hb1
        go_wp2_with (go_at_call 78; refine (rcode_any _ _).mono ?_; rintro e w' ⟨rfl, rfl⟩)
        go_ret2
        rw [hE.out]
        exact RetE.nil _ HB.out
      · have d2 : decide ((512 : Int) < (n : Int)) = false := decide_eq_false (by omega)
        by_cases hc : wcode Wi < 0
        · have hE := Lib.hid (pputE_no (l := l) (s := s) (.inr (.inr (.inr (.inl hc)))))
          have d3 : decide (wcode Wi < 0) = true := decide_eq_true hc
          clear hn hd hpe hl hb hc
          go_enter Tryz.func55, Tryz.ntmps55
          go_wp2_with fail
          refine HP.out.mono ?_
          rintro e w1 ⟨u, rfl, hu, hb1⟩
          obtain ⟨A1, c1, rfl, _⟩ := hu
          have HB := Lib.hid hb1
          have HV := Lib.hid (HVV.out.below hb1)
          clear hb1
          go_wp2_with (go_at_call 78; refine (rcode_any _ _).mono ?_; rintro e w' ⟨rfl, rfl⟩)
          go_ret2
          rw [hE.out]
          exact RetE.nil _ HB.out
        · have d3 : decide (wcode Wi < 0) = false := decide_eq_false hc
          by_cases h64 : 64 ≤ Wi
          · have hE := Lib.hid (pputE_no (l := l) (s := s) (.inr (.inr (.inr (.inr h64)))))
            have d4 : decide ((64 : Int) ≤ Wi) = true := decide_eq_true h64
            clear hn hd hpe hl hb hc h64
            go_enter Tryz.func55, Tryz.ntmps55
            go_wp2_with fail
            refine HP.out.mono ?_
            rintro e w1 ⟨u, rfl, hu, hb1⟩
            obtain ⟨A1, c1, rfl, _⟩ := hu
            have HB := Lib.hid hb1
            have HV := Lib.hid (HVV.out.below hb1)
            clear hb1
            go_wp2_with (go_at_call 78; refine (rcode_any _ _).mono ?_; rintro e w' ⟨rfl, rfl⟩)
            go_ret2
            rw [hE.out]
            exact RetE.nil _ HB.out
          · have d4 : decide ((64 : Int) ≤ Wi) = false := decide_eq_false h64
            obtain ⟨W, rfl⟩ := Int.eq_ofNat_of_zero_le (show 0 ≤ Wi by have := wcode_range (W := Wi) (by omega); omega)
            have hW1 := wcode_range (W := (W : Int)) (by omega)
            have hW64 : W < 64 := by omega
            have HN1 : Hid (1 ≤ l.length) := Lib.hid (by omega)
            have hn5 : n ≤ 512 := by omega
            have HDN : Hid (dplain l s ≠ none) := Lib.hid (by rw [hd]; exact fun h => nomatch h)
            have HWC : Hid (0 ≤ wcode (W : Int)) := Lib.hid (by omega)
            cases hu : pups l with
            | none =>
              have hE := Lib.hid (pputE_ups (W := (W : Int)) (s := s) hu)
              have HAB : Hid (paboveE l = (0, [], false)) := Lib.hid (by unfold paboveE; rw [hu])
              clear hn hd hpe hl hb hu hc h64 hW1
              go_enter Tryz.func55, Tryz.ntmps55
              go_wp2_with fail
              refine HP.out.mono ?_
              rintro e w1 ⟨u, rfl, hu, hb1⟩
              obtain ⟨A1, c1, rfl, _⟩ := hu
              have HB := Lib.hid hb1
              have HV := Lib.hid (HVV.out.below hb1)
              clear hb1
              go_wp2_with (go_at_call 78; refine (rcode_any _ _).mono ?_; rintro e w' ⟨rfl, rfl⟩)
              refine (rabove_any l _ w1 HV.out HL.out HN1.out (by have := HN.out; omega)).mono ?_
              rw [HAB.out]
              rintro e w2 ⟨uv2, rfl, huv2, hb2⟩
              have HB := Lib.hid (below_then HB.out hb2)
              have HU2 := Lib.hid huv2
              clear hb2 huv2
              go_wp2
              go_ret2
              rw [hE.out]
              exact RetE.nil _ HB.out
            | some us =>
              have HES := Lib.hid (pputE_some (s := s) HDN.out (by omega) (by omega) HWC.out hW64 hu)
              have HAB : Hid (paboveE l = (pbase l, us, pbase l != -9223372036854775808)) := Lib.hid (by unfold paboveE; rw [hu])
              have HUL : Hid (us.length = n) := Lib.hid (by rw [pups_len hu]; exact hn)
              have H64 : Hid (∀ u ∈ us, u < 2 ^ 64) := Lib.hid fun u h => by have := pups_lt hl hu u h; show u < 18446744073709551616; omega
              obtain ⟨base, hba⟩ : ∃ base, base = pbase l := ⟨_, rfl⟩
              rw [← hba] at HES HAB
              have HBI0 : Hid (inInt base) := Lib.hid (by rw [hba]; exact hl _ (pbase_mem (by omega)))
              by_cases hne : base = -9223372036854775808
              · have hE : Hid (pputE l W s = ([], 1)) := Lib.hid (by rw [HES.out, if_pos (.inl hne)])
                have HAB2 : Hid (paboveE l = (base, us, false)) := Lib.hid (by rw [HAB.out, hne]; rfl)
                have HAB := HAB2
                clear hn hd hpe hl hb hu hc h64 hW1 hba hne HAB2
                go_enter Tryz.func55, Tryz.ntmps55
                go_wp2_with fail
                refine HP.out.mono ?_
                rintro e w1 ⟨u, rfl, hu, hb1⟩
                obtain ⟨A1, c1, rfl, _⟩ := hu
                have HB := Lib.hid hb1
                have HV := Lib.hid (HVV.out.below hb1)
                clear hb1
                go_wp2_with (go_at_call 78; refine (rcode_any _ _).mono ?_; rintro e w' ⟨rfl, rfl⟩)
                refine (rabove_any l _ w1 HV.out HL.out HN1.out (by have := HN.out; omega)).mono ?_
                rw [HAB.out]
                rintro e w2 ⟨uv2, rfl, huv2, hb2⟩
                have HB := Lib.hid (below_then HB.out hb2)
                have HU2 := Lib.hid huv2
                clear hb2 huv2
                go_wp2
                go_ret2
                rw [hE.out]
                exact RetE.nil _ HB.out
              · have HAB2 : Hid (paboveE l = (base, us, true)) := Lib.hid (by rw [HAB.out, show (base != -9223372036854775808) = true by simpa using hne])
                have HAB := HAB2
                have HNE : Hid (base ≠ -9223372036854775808) := Lib.hid hne
                have HN8 : Hid (1 ≤ pn base ∧ pn base ≤ 8) := Lib.hid (by have := pn_bd (psize_base HBI0.out hne).2; omega)
                obtain ⟨g1, g8, p1, p64, pc, pcc, p31, pw, hq⟩ := ppairs_ok (w := W) H64.out
                have hq2 := (ppw_ok (w := W) H64.out).2.2
                have hpl := pst_len W us us.length
                have hpl2 := pst_last W us us.length
                obtain ⟨ps, hps⟩ : ∃ ps, ps = ppairs W us := ⟨_, rfl⟩
                rw [show (pst W us us.length).1 = ps from hps.symm] at hpl
                rw [← hps] at g1 g8 p1 p64 pc pcc p31 pw hq hq2 HES
                have HPS := Lib.hid hps.symm
                have HPL : Hid (ps.length ≤ 1030) := Lib.hid (by have := HUL.out; omega)
                have HQ := Lib.hid hq2
                have HQ2 := Lib.hid hq
                obtain ⟨G, hG⟩ : ∃ G, G = pgw ps := ⟨_, rfl⟩
                obtain ⟨P, hP⟩ : ∃ P, P = ppw ps := ⟨_, rfl⟩
                obtain ⟨CP, hCP⟩ : ∃ CP, CP = pcode P := ⟨_, rfl⟩
                obtain ⟨CW, hCW⟩ : ∃ CW, CW = pcode W := ⟨_, rfl⟩
                have hcb := pcode_back HWC.out
                rw [← hCW] at hcb
                rw [← hG] at g1 g8 HES
                rw [← hP] at p1 p64 pc pcc p31 HES
                rw [← hCP] at pcc p31
                have HG := Lib.hid hG
                have HGG := Lib.hid hG.symm
                have HPP := Lib.hid hP.symm
                have HCPP := Lib.hid hCP.symm
                have HCWE := Lib.hid hcb.2.2
                have HC31 := Lib.hid hcb.2.1
                have HCWD := Lib.hid hCW
                have HCPE := Lib.hid pcc
                have HP64 : Hid (∀ x ∈ ppats ps, x < 2 ^ 64) := Lib.hid fun x hx => by
                  obtain ⟨q, hm, rfl⟩ := List.mem_map.1 hx
                  exact (HQ.out q hm).2
                obtain ⟨M, hM⟩ : ∃ M, M = wmost (ppats ps) := ⟨_, rfl⟩
                have hpc : wclosest ((max 1 M : Nat) : Int) = (P : Int) := by rw [hM]; exact pc
                obtain ⟨X1, hX1⟩ : ∃ X1, X1 = max 1 M := ⟨_, rfl⟩
                rw [← hX1] at hpc
                have hmaxm : ∀ (ts : Array TypeId) (t : TypeId) (W : World), (Builtin.max_ ts t #[.int .i64 1, .int .i64 (M : Int)]).run Tryz.prog W = .ok (.int .i64 (X1 : Int)) W := fun ts t W => by
                  rw [run_max_int2]
                  congr 2
                  split <;> omega
                rw [hM] at hmaxm
                have HCL := Lib.hid (fun X => rclosest_any (X1 : Int) X)
                rw [hpc] at HCL
                obtain ⟨GP, hGP⟩ : ∃ GP, GP = G + P := ⟨_, rfl⟩
                have hGPi : (G : Int) + (P : Int) = (GP : Int) := by omega
                obtain ⟨WP, hWP⟩ : ∃ WP, WP = W + P := ⟨_, rfl⟩
                have hWPi : (W : Int) + (P : Int) = (WP : Int) := by omega
                rw [← hGP, ← hWP] at HES
                clear hn hd hpe hl hb hu hc h64 hba hne HAB2 hps hG hP hCP hCW hcb pcc pc pw hq hq2 hpl hpl2 hM hX1 hpc hGP hWP
                by_cases h31 : 31 < ps.length
                · have hE : Hid (pputE l W s = ([], 1)) := Lib.hid (by rw [HES.out, if_pos (.inr (.inl h31))])
                  go_enter Tryz.func55, Tryz.ntmps55
                  go_wp2_with fail
                  refine HP.out.mono ?_
                  rintro e w1 ⟨u, rfl, hu, hb1⟩
                  obtain ⟨A1, c1, rfl, _⟩ := hu
                  have HB := Lib.hid hb1
                  have HV := Lib.hid (HVV.out.below hb1)
                  clear hb1
                  go_wp2_with (go_at_call 78; refine (rcode_any _ _).mono ?_; rintro e w' ⟨rfl, rfl⟩)
                  refine (rabove_any l _ w1 HV.out HL.out HN1.out (by have := HN.out; omega)).mono ?_
                  rw [HAB.out]
                  rintro e w2 ⟨uv2, rfl, huv2, hb2⟩
                  have HB := Lib.hid (below_then HB.out hb2)
                  have HU2 := Lib.hid huv2
                  clear hb2 huv2
                  go_wp2_with fail
                  refine (rpairs_any us uv2 W w2 HU2.out H64.out (by have := HUL.out; omega) (by omega)).mono ?_
                  rw [HPS.out]
                  rintro e w3 ⟨gv, pv, rfl, hgv, hpv, hb3⟩
                  have HB := Lib.hid (below_then HB.out hb3)
                  have HU3 := Lib.hid (HU2.out.below hb3)
                  have HG3 := Lib.hid hgv
                  have HP3 := Lib.hid hpv
                  clear hb3 hgv hpv
                  obtain ⟨Ag, ng, cg, rfl⟩ := HG3.out.shape
                  have hng := HG3.out.parts.1
                  have HNG := Lib.hid (show ps.length = ng by rw [← hng]; simp [pgaps])
                  have hngb : ng ≤ 2000 := by have := HNG.out; have := HPL.out; omega
                  clear hng
                  go_wp2
                  go_loopw [15, 16] (GRel ps w3) (fun _ i _ => ng - (intOf i).toNat)
                  case atStart => exact ⟨0, by omega, rfl, rfl, rfl⟩
                  case round =>
                    obtain ⟨k, hk, rfl, rfl, rfl⟩ := hrel
                    have hk' : k ≤ ng := by have := HNG.out; omega
                    by_cases hlt : k < ng
                    · have hkl : k < (pgaps ps).length := by have := HNG.out; rw [pgaps, List.length_map]; omega
                      have hkp : k < ps.length := by have := HNG.out; omega
                      have hlti : (k : Int) < (ng : Int) := by omega
                      obtain ⟨adg, hAd, _, hcell⟩ := HG3.out.at hkl
                      subst hAd
                      obtain ⟨x, hx⟩ : ∃ x, x = ps[k].1 := ⟨_, rfl⟩
                      have hcx : wr.cell? (adg.add k) = some (.int .i64 (x : Int)) := by rw [hcell, hx]; simp [pgaps, iv]
                      have hx8 : x ≤ 255 := by rw [hx]; exact (HQ.out _ (List.getElem_mem hkp)).1
                      have hxw : IntKind.u64.wrap (x : Int) = (x : Int) := by rw [IntKind.wrap_u64]; omega
                      have HBI := Lib.hid (fun W => rbits_any x W (Nat.lt_of_le_of_lt hx8 (by decide)))
                      have HX := Lib.hid hx
                      obtain ⟨b, hb⟩ : ∃ b, b = wbits x := ⟨_, rfl⟩
                      rw [← hb] at HBI
                      obtain ⟨g0, hg0⟩ : ∃ g0, g0 = max 1 (wmost ((ps.map (·.1)).take k)) := ⟨_, rfl⟩
                      rw [← hg0]
                      obtain ⟨g1, hg1⟩ : ∃ g1, g1 = max g0 b := ⟨_, rfl⟩
                      have hmax : ∀ (ts : Array TypeId) (t : TypeId) (W : World), (Builtin.max_ ts t #[.int .i64 (g0 : Int), .int .i64 (b : Int)]).run Tryz.prog W = .ok (.int .i64 (g1 : Int)) W := fun ts t W => by
                        rw [run_max_int2]
                        congr 2
                        split <;> omega
                      have HG1 : Hid (g1 = max 1 (wmost ((ps.map (·.1)).take (k + 1)))) := Lib.hid (by rw [hg1, hg0, hb, List.take_succ_eq_append_getElem (by rw [List.length_map]; exact hkp), wmost_snoc, List.getElem_map, ← hx]; omega)
                      clear hcell hx hb hg0 hg1
                      go_wp2_with (go_at_call 73; refine (HBI.out _).mono ?_; rintro e w' ⟨rfl, rfl⟩)
                      go_roundw
                      case rel => exact ⟨k + 1, hkp, by go_num, by rw [HG1.out], rfl⟩
                      case measure => simp [intOf]; omega
                    · obtain rfl : ng = k := by omega
                      have hlti : ¬ (ng : Int) < (ng : Int) := by omega
                      rw [show max 1 (wmost ((ps.map (·.1)).take ng)) = G by rw [List.take_of_length_le (by rw [List.length_map]; have := HNG.out; omega), HG.out]; rfl]
                      have d5 : decide ((31 : Int) < (ng : Int)) = true := decide_eq_true (by have := HNG.out; omega)
                      go_wp2_with (first | (go_at_call 75; refine (rmost_is HP3.out (by rw [ppats, List.length_map]; have := HPL.out; omega) HP64.out).mono ?_; rintro e w' ⟨rfl, rfl⟩) | (go_at_call 74; refine (HCL.out _).mono ?_; rintro e w' ⟨rfl, rfl⟩))
                      go_ret2
                      rw [hE.out]
                      exact RetE.nil _ HB.out
                · by_cases hgp : 64 < GP
                  · have hE : Hid (pputE l W s = ([], 1)) := Lib.hid (by rw [HES.out, if_pos (.inr (.inr (.inl hgp)))])
                    go_enter Tryz.func55, Tryz.ntmps55
                    go_wp2_with fail
                    refine HP.out.mono ?_
                    rintro e w1 ⟨u, rfl, hu, hb1⟩
                    obtain ⟨A1, c1, rfl, _⟩ := hu
                    have HB := Lib.hid hb1
                    have HV := Lib.hid (HVV.out.below hb1)
                    clear hb1
                    go_wp2_with (go_at_call 78; refine (rcode_any _ _).mono ?_; rintro e w' ⟨rfl, rfl⟩)
                    refine (rabove_any l _ w1 HV.out HL.out HN1.out (by have := HN.out; omega)).mono ?_
                    rw [HAB.out]
                    rintro e w2 ⟨uv2, rfl, huv2, hb2⟩
                    have HB := Lib.hid (below_then HB.out hb2)
                    have HU2 := Lib.hid huv2
                    clear hb2 huv2
                    go_wp2_with fail
                    refine (rpairs_any us uv2 W w2 HU2.out H64.out (by have := HUL.out; omega) (by omega)).mono ?_
                    rw [HPS.out]
                    rintro e w3 ⟨gv, pv, rfl, hgv, hpv, hb3⟩
                    have HB := Lib.hid (below_then HB.out hb3)
                    have HU3 := Lib.hid (HU2.out.below hb3)
                    have HG3 := Lib.hid hgv
                    have HP3 := Lib.hid hpv
                    clear hb3 hgv hpv
                    obtain ⟨Ag, ng, cg, rfl⟩ := HG3.out.shape
                    have hng := HG3.out.parts.1
                    have HNG := Lib.hid (show ps.length = ng by rw [← hng]; simp [pgaps])
                    have hngb : ng ≤ 2000 := by have := HNG.out; have := HPL.out; omega
                    clear hng
                    go_wp2
                    go_loopw [15, 16] (GRel ps w3) (fun _ i _ => ng - (intOf i).toNat)
                    case atStart => exact ⟨0, by omega, rfl, rfl, rfl⟩
                    case round =>
                      obtain ⟨k, hk, rfl, rfl, rfl⟩ := hrel
                      have hk' : k ≤ ng := by have := HNG.out; omega
                      by_cases hlt : k < ng
                      · have hkl : k < (pgaps ps).length := by have := HNG.out; rw [pgaps, List.length_map]; omega
                        have hkp : k < ps.length := by have := HNG.out; omega
                        have hlti : (k : Int) < (ng : Int) := by omega
                        obtain ⟨adg, hAd, _, hcell⟩ := HG3.out.at hkl
                        subst hAd
                        obtain ⟨x, hx⟩ : ∃ x, x = ps[k].1 := ⟨_, rfl⟩
                        have hcx : wr.cell? (adg.add k) = some (.int .i64 (x : Int)) := by rw [hcell, hx]; simp [pgaps, iv]
                        have hx8 : x ≤ 255 := by rw [hx]; exact (HQ.out _ (List.getElem_mem hkp)).1
                        have hxw : IntKind.u64.wrap (x : Int) = (x : Int) := by rw [IntKind.wrap_u64]; omega
                        have HBI := Lib.hid (fun W => rbits_any x W (Nat.lt_of_le_of_lt hx8 (by decide)))
                        have HX := Lib.hid hx
                        obtain ⟨b, hb⟩ : ∃ b, b = wbits x := ⟨_, rfl⟩
                        rw [← hb] at HBI
                        obtain ⟨g0, hg0⟩ : ∃ g0, g0 = max 1 (wmost ((ps.map (·.1)).take k)) := ⟨_, rfl⟩
                        rw [← hg0]
                        obtain ⟨g1, hg1⟩ : ∃ g1, g1 = max g0 b := ⟨_, rfl⟩
                        have hmax : ∀ (ts : Array TypeId) (t : TypeId) (W : World), (Builtin.max_ ts t #[.int .i64 (g0 : Int), .int .i64 (b : Int)]).run Tryz.prog W = .ok (.int .i64 (g1 : Int)) W := fun ts t W => by
                          rw [run_max_int2]
                          congr 2
                          split <;> omega
                        have HG1 : Hid (g1 = max 1 (wmost ((ps.map (·.1)).take (k + 1)))) := Lib.hid (by rw [hg1, hg0, hb, List.take_succ_eq_append_getElem (by rw [List.length_map]; exact hkp), wmost_snoc, List.getElem_map, ← hx]; omega)
                        clear hcell hx hb hg0 hg1
                        go_wp2_with (go_at_call 73; refine (HBI.out _).mono ?_; rintro e w' ⟨rfl, rfl⟩)
                        go_roundw
                        case rel => exact ⟨k + 1, hkp, by go_num, by rw [HG1.out], rfl⟩
                        case measure => simp [intOf]; omega
                      · obtain rfl : ng = k := by omega
                        have hlti : ¬ (ng : Int) < (ng : Int) := by omega
                        rw [show max 1 (wmost ((ps.map (·.1)).take ng)) = G by rw [List.take_of_length_le (by rw [List.length_map]; have := HNG.out; omega), HG.out]; rfl]
                        have d5 : decide ((31 : Int) < (ng : Int)) = false := decide_eq_false (by have := HNG.out; omega)
                        have d6 : decide ((64 : Int) < (GP : Int)) = true := decide_eq_true (by omega)
                        go_wp2_with (first | (go_at_call 75; refine (rmost_is HP3.out (by rw [ppats, List.length_map]; have := HPL.out; omega) HP64.out).mono ?_; rintro e w' ⟨rfl, rfl⟩) | (go_at_call 74; refine (HCL.out _).mono ?_; rintro e w' ⟨rfl, rfl⟩))
                        go_ret2
                        rw [hE.out]
                        exact RetE.nil _ HB.out
                  · by_cases hwp : 64 < WP
                    · have hE : Hid (pputE l W s = ([], 1)) := Lib.hid (by rw [HES.out, if_pos (.inr (.inr (.inr hwp)))])
                      go_enter Tryz.func55, Tryz.ntmps55
                      go_wp2_with fail
                      refine HP.out.mono ?_
                      rintro e w1 ⟨u, rfl, hu, hb1⟩
                      obtain ⟨A1, c1, rfl, _⟩ := hu
                      have HB := Lib.hid hb1
                      have HV := Lib.hid (HVV.out.below hb1)
                      clear hb1
                      go_wp2_with (go_at_call 78; refine (rcode_any _ _).mono ?_; rintro e w' ⟨rfl, rfl⟩)
                      refine (rabove_any l _ w1 HV.out HL.out HN1.out (by have := HN.out; omega)).mono ?_
                      rw [HAB.out]
                      rintro e w2 ⟨uv2, rfl, huv2, hb2⟩
                      have HB := Lib.hid (below_then HB.out hb2)
                      have HU2 := Lib.hid huv2
                      clear hb2 huv2
                      go_wp2_with fail
                      refine (rpairs_any us uv2 W w2 HU2.out H64.out (by have := HUL.out; omega) (by omega)).mono ?_
                      rw [HPS.out]
                      rintro e w3 ⟨gv, pv, rfl, hgv, hpv, hb3⟩
                      have HB := Lib.hid (below_then HB.out hb3)
                      have HU3 := Lib.hid (HU2.out.below hb3)
                      have HG3 := Lib.hid hgv
                      have HP3 := Lib.hid hpv
                      clear hb3 hgv hpv
                      obtain ⟨Ag, ng, cg, rfl⟩ := HG3.out.shape
                      have hng := HG3.out.parts.1
                      have HNG := Lib.hid (show ps.length = ng by rw [← hng]; simp [pgaps])
                      have hngb : ng ≤ 2000 := by have := HNG.out; have := HPL.out; omega
                      clear hng
                      go_wp2
                      go_loopw [15, 16] (GRel ps w3) (fun _ i _ => ng - (intOf i).toNat)
                      case atStart => exact ⟨0, by omega, rfl, rfl, rfl⟩
                      case round =>
                        obtain ⟨k, hk, rfl, rfl, rfl⟩ := hrel
                        have hk' : k ≤ ng := by have := HNG.out; omega
                        by_cases hlt : k < ng
                        · have hkl : k < (pgaps ps).length := by have := HNG.out; rw [pgaps, List.length_map]; omega
                          have hkp : k < ps.length := by have := HNG.out; omega
                          have hlti : (k : Int) < (ng : Int) := by omega
                          obtain ⟨adg, hAd, _, hcell⟩ := HG3.out.at hkl
                          subst hAd
                          obtain ⟨x, hx⟩ : ∃ x, x = ps[k].1 := ⟨_, rfl⟩
                          have hcx : wr.cell? (adg.add k) = some (.int .i64 (x : Int)) := by rw [hcell, hx]; simp [pgaps, iv]
                          have hx8 : x ≤ 255 := by rw [hx]; exact (HQ.out _ (List.getElem_mem hkp)).1
                          have hxw : IntKind.u64.wrap (x : Int) = (x : Int) := by rw [IntKind.wrap_u64]; omega
                          have HBI := Lib.hid (fun W => rbits_any x W (Nat.lt_of_le_of_lt hx8 (by decide)))
                          have HX := Lib.hid hx
                          obtain ⟨b, hb⟩ : ∃ b, b = wbits x := ⟨_, rfl⟩
                          rw [← hb] at HBI
                          obtain ⟨g0, hg0⟩ : ∃ g0, g0 = max 1 (wmost ((ps.map (·.1)).take k)) := ⟨_, rfl⟩
                          rw [← hg0]
                          obtain ⟨g1, hg1⟩ : ∃ g1, g1 = max g0 b := ⟨_, rfl⟩
                          have hmax : ∀ (ts : Array TypeId) (t : TypeId) (W : World), (Builtin.max_ ts t #[.int .i64 (g0 : Int), .int .i64 (b : Int)]).run Tryz.prog W = .ok (.int .i64 (g1 : Int)) W := fun ts t W => by
                            rw [run_max_int2]
                            congr 2
                            split <;> omega
                          have HG1 : Hid (g1 = max 1 (wmost ((ps.map (·.1)).take (k + 1)))) := Lib.hid (by rw [hg1, hg0, hb, List.take_succ_eq_append_getElem (by rw [List.length_map]; exact hkp), wmost_snoc, List.getElem_map, ← hx]; omega)
                          clear hcell hx hb hg0 hg1
                          go_wp2_with (go_at_call 73; refine (HBI.out _).mono ?_; rintro e w' ⟨rfl, rfl⟩)
                          go_roundw
                          case rel => exact ⟨k + 1, hkp, by go_num, by rw [HG1.out], rfl⟩
                          case measure => simp [intOf]; omega
                        · obtain rfl : ng = k := by omega
                          have hlti : ¬ (ng : Int) < (ng : Int) := by omega
                          rw [show max 1 (wmost ((ps.map (·.1)).take ng)) = G by rw [List.take_of_length_le (by rw [List.length_map]; have := HNG.out; omega), HG.out]; rfl]
                          have d5 : decide ((31 : Int) < (ng : Int)) = false := decide_eq_false (by have := HNG.out; omega)
                          have d6 : decide ((64 : Int) < (GP : Int)) = false := decide_eq_false (by omega)
                          have d7 : decide ((64 : Int) < (WP : Int)) = true := decide_eq_true (by omega)
                          go_wp2_with (first | (go_at_call 75; refine (rmost_is HP3.out (by rw [ppats, List.length_map]; have := HPL.out; omega) HP64.out).mono ?_; rintro e w' ⟨rfl, rfl⟩) | (go_at_call 74; refine (HCL.out _).mono ?_; rintro e w' ⟨rfl, rfl⟩))
                          go_ret2
                          rw [hE.out]
                          exact RetE.nil _ HB.out
                    · have hE : Hid (pputE l W s = (play base us W, 0)) := Lib.hid (by rw [HES.out, if_neg (by rintro (h | h | h | h) <;> first | exact HNE.out h | omega)])
                      go_enter Tryz.func55, Tryz.ntmps55
                      go_wp2_with fail
                      refine HP.out.mono ?_
                      rintro e w1 ⟨u, rfl, hu, hb1⟩
                      obtain ⟨A1, c1, rfl, _⟩ := hu
                      have HB := Lib.hid hb1
                      have HV := Lib.hid (HVV.out.below hb1)
                      clear hb1
                      go_wp2_with (go_at_call 78; refine (rcode_any _ _).mono ?_; rintro e w' ⟨rfl, rfl⟩)
                      refine (rabove_any l _ w1 HV.out HL.out HN1.out (by have := HN.out; omega)).mono ?_
                      rw [HAB.out]
                      rintro e w2 ⟨uv2, rfl, huv2, hb2⟩
                      have HB := Lib.hid (below_then HB.out hb2)
                      have HU2 := Lib.hid huv2
                      clear hb2 huv2
                      go_wp2_with fail
                      refine (rpairs_any us uv2 W w2 HU2.out H64.out (by have := HUL.out; omega) (by omega)).mono ?_
                      rw [HPS.out]
                      rintro e w3 ⟨gv, pv, rfl, hgv, hpv, hb3⟩
                      have HB := Lib.hid (below_then HB.out hb3)
                      have HU3 := Lib.hid (HU2.out.below hb3)
                      have HG3 := Lib.hid hgv
                      have HP3 := Lib.hid hpv
                      clear hb3 hgv hpv
                      obtain ⟨Ag, ng, cg, rfl⟩ := HG3.out.shape
                      have hng := HG3.out.parts.1
                      have HNG := Lib.hid (show ps.length = ng by rw [← hng]; simp [pgaps])
                      have hngb : ng ≤ 2000 := by have := HNG.out; have := HPL.out; omega
                      clear hng
                      go_wp2
                      go_loopw [15, 16] (GRel ps w3) (fun _ i _ => ng - (intOf i).toNat)
                      case atStart => exact ⟨0, by omega, rfl, rfl, rfl⟩
                      case round =>
                        obtain ⟨k, hk, rfl, rfl, rfl⟩ := hrel
                        have hk' : k ≤ ng := by have := HNG.out; omega
                        by_cases hlt : k < ng
                        · have hkl : k < (pgaps ps).length := by have := HNG.out; rw [pgaps, List.length_map]; omega
                          have hkp : k < ps.length := by have := HNG.out; omega
                          have hlti : (k : Int) < (ng : Int) := by omega
                          obtain ⟨adg, hAd, _, hcell⟩ := HG3.out.at hkl
                          subst hAd
                          obtain ⟨x, hx⟩ : ∃ x, x = ps[k].1 := ⟨_, rfl⟩
                          have hcx : wr.cell? (adg.add k) = some (.int .i64 (x : Int)) := by rw [hcell, hx]; simp [pgaps, iv]
                          have hx8 : x ≤ 255 := by rw [hx]; exact (HQ.out _ (List.getElem_mem hkp)).1
                          have hxw : IntKind.u64.wrap (x : Int) = (x : Int) := by rw [IntKind.wrap_u64]; omega
                          have HBI := Lib.hid (fun W => rbits_any x W (Nat.lt_of_le_of_lt hx8 (by decide)))
                          have HX := Lib.hid hx
                          obtain ⟨b, hb⟩ : ∃ b, b = wbits x := ⟨_, rfl⟩
                          rw [← hb] at HBI
                          obtain ⟨g0, hg0⟩ : ∃ g0, g0 = max 1 (wmost ((ps.map (·.1)).take k)) := ⟨_, rfl⟩
                          rw [← hg0]
                          obtain ⟨g1, hg1⟩ : ∃ g1, g1 = max g0 b := ⟨_, rfl⟩
                          have hmax : ∀ (ts : Array TypeId) (t : TypeId) (W : World), (Builtin.max_ ts t #[.int .i64 (g0 : Int), .int .i64 (b : Int)]).run Tryz.prog W = .ok (.int .i64 (g1 : Int)) W := fun ts t W => by
                            rw [run_max_int2]
                            congr 2
                            split <;> omega
                          have HG1 : Hid (g1 = max 1 (wmost ((ps.map (·.1)).take (k + 1)))) := Lib.hid (by rw [hg1, hg0, hb, List.take_succ_eq_append_getElem (by rw [List.length_map]; exact hkp), wmost_snoc, List.getElem_map, ← hx]; omega)
                          clear hcell hx hb hg0 hg1
                          go_wp2_with (go_at_call 73; refine (HBI.out _).mono ?_; rintro e w' ⟨rfl, rfl⟩)
                          go_roundw
                          case rel => exact ⟨k + 1, hkp, by go_num, by rw [HG1.out], rfl⟩
                          case measure => simp [intOf]; omega
                        · obtain rfl : ng = k := by omega
                          have hlti : ¬ (ng : Int) < (ng : Int) := by omega
                          rw [show max 1 (wmost ((ps.map (·.1)).take ng)) = G by rw [List.take_of_length_le (by rw [List.length_map]; have := HNG.out; omega), HG.out]; rfl]
                          have d5 : decide ((31 : Int) < (ng : Int)) = false := decide_eq_false (by have := HNG.out; omega)
                          have d6 : decide ((64 : Int) < (GP : Int)) = false := decide_eq_false (by omega)
                          have d7 : decide ((64 : Int) < (WP : Int)) = false := decide_eq_false (by omega)
                          have hng31 : ng ≤ 31 := by have := HNG.out; omega
                          obtain ⟨W2, hW2⟩ : ∃ W2, W2 = (wclosest (GP : Int)).toNat := ⟨_, rfl⟩
                          have hpcl := pclose (n := GP) (by omega)
                          rw [← hW2] at hpcl
                          have HW2 := Lib.hid hpcl.2.2.2.2.2.1
                          have HW2b := Lib.hid (show W2 ≤ 64 ∧ GP ≤ W2 from ⟨hpcl.2.1, hpcl.2.2.1⟩)
                          have HW2E := Lib.hid hW2
                          have HQ3 : Hid (∀ q ∈ ps, q.1 < 2 ^ G ∧ q.2 < 2 ^ P) := Lib.hid (by rw [← HGG.out, ← HPP.out]; exact HQ2.out)
                          have hGPn : GP = G + P := by omega
                          have HGPN := Lib.hid hGPn
                          clear hW2 hpcl hGPn
                          go_wp2_with (first | (go_at_call 75; refine (rmost_is HP3.out (by rw [ppats, List.length_map]; have := HPL.out; omega) HP64.out).mono ?_; rintro e w' ⟨rfl, rfl⟩) | (go_at_call 74; refine (HCL.out _).mono ?_; rintro e w' ⟨rfl, rfl⟩) | (go_at_call 83; refine (rbased_any base _ HBI0.out HNE.out).mono ?_))
                          rintro e w4 ⟨bv4, rfl, hown4, hb4⟩
                          have HB := Lib.hid (below_then HB.out hb4)
                          have HU4 := Lib.hid (HU3.out.below hb4)
                          have HG4 := Lib.hid (HG3.out.below hb4)
                          have HP4 := Lib.hid (HP3.out.below hb4)
                          have HI4 := Lib.hid (isB_own hown4)
                          clear hb4 hown4
                          obtain ⟨Ab, nb, cb, rfl⟩ := IsV.shape (f := bv) HI4.out
                          have hnb := (IsV.parts (f := bv) HI4.out).1
                          have HNB := Lib.hid hnb
                          rw [pbased_len] at hnb
                          obtain ⟨N1, hN1⟩ : ∃ N1, N1 = nb - 1 := ⟨_, rfl⟩
                          have hN1i : (nb : Int) - 1 = (N1 : Int) := by have := HN8.out; omega
                          obtain ⟨M1, hM1⟩ : ∃ M1, M1 = 32 * N1 := ⟨_, rfl⟩
                          have hM1i : 32 * (N1 : Int) = (M1 : Int) := by omega
                          obtain ⟨X, hX⟩ : ∃ X, X = M1 + CP := ⟨_, rfl⟩
                          have hXi : (M1 : Int) + (CP : Int) = (X : Int) := by omega
                          obtain ⟨G1, hG1⟩ : ∃ G1, G1 = G - 1 := ⟨_, rfl⟩
                          have hG1i : (G : Int) - 1 = (G1 : Int) := by omega
                          obtain ⟨M2, hM2⟩ : ∃ M2, M2 = 32 * G1 := ⟨_, rfl⟩
                          have hM2i : 32 * (G1 : Int) = (M2 : Int) := by omega
                          obtain ⟨Y, hY⟩ : ∃ Y, Y = M2 + ng := ⟨_, rfl⟩
                          have hYi : (M2 : Int) + (ng : Int) = (Y : Int) := by omega
                          have hX8 : X < 256 := by have := HN8.out; omega
                          have hY8 : Y < 256 := by omega
                          have hXw : IntKind.u8.wrap (X : Int) = (X : Int) := by rw [IntKind.wrap_u8]; omega
                          have hYw : IntKind.u8.wrap (Y : Int) = (Y : Int) := by rw [IntKind.wrap_u8]; omega
                          have HXY : Hid (pheadb base ps = [UInt8.ofNat X, UInt8.ofNat Y]) := Lib.hid (by unfold pheadb; rw [HPP.out, HGG.out, HCPP.out, HNG.out, hnb, ← hN1, ← hM1, ← hX, ← hG1, ← hM2, ← hY])
                          have hXb := bv_low7 hX8
                          have hYb := bv_low7 hY8
                          have HXB := Lib.hid hXb
                          have HYB := Lib.hid hYb
                          clear hXb hYb hN1 hM1 hX hG1 hM2 hY hnb
                          have HCW := Lib.hid (fun X => rcode_any (W : Int) X)
                          rw [HCWE.out] at HCW
                          have HCQ := Lib.hid (fun X => rcode_any (P : Int) X)
                          rw [HCPE.out] at HCQ
                          have HHD := Lib.hid (fun X => rhead8_any 2 (CW : Int) (n : Int) X)
                          rw [show (2 : Int) = ((2 : Nat) : Int) from rfl, dhead_in (by omega) HC31.out (by have := HN1.out; have := HN.out; omega) (by omega)] at HHD
                          go_wp2_with (go_at_call 78; refine (HCW.out _).mono ?_; rintro e w' ⟨rfl, rfl⟩)
                          refine (HHD.out _).mono ?_
                          rintro e w5 ⟨hv5, rfl, hown5, hb5⟩
                          rw [dheadN_len] at hown5
                          have HU5 := Lib.hid (HU4.out.below hb5)
                          have HG5 := Lib.hid (HG4.out.below hb5)
                          have HP5 := Lib.hid (HP4.out.below hb5)
                          have HI5 := Lib.hid (IsB.below HI4.out hb5)
                          have HOW := Lib.hid hown5
                          have HBF := Lib.hid hb5
                          have hz5 := hb5.size
                          clear hown5 hb5
                          have hown6 := HOW.out.alloc (.cells #[.int .u8 (X : Int), .int .u8 (Y : Int)] 5)
                          have hb6 := HBF.out.alloc hz5 (.cells #[.int .u8 (X : Int), .int .u8 (Y : Int)] 5)
                          have hz6 := hb6.size
                          have hlXY : Lies (w5.alloc (.cells #[.int .u8 (X : Int), .int .u8 (Y : Int)] 5)) (some ⟨w5.heap.size, 0, none⟩) ([UInt8.ofNat X, UInt8.ofNat Y].map bv) := by
                            have h : Row (w5.alloc (.cells #[.int .u8 (X : Int), .int .u8 (Y : Int)] 5)) w5.heap.size 5 ([UInt8.ofNat X, UInt8.ofNat Y].map bv) := by rw [List.map_cons, List.map_cons, List.map_nil, ← HXB.out, ← HYB.out]; exact heap_alloc_new w5 _
                            exact h.lies 0
                          go_wp2_with (first | (go_at_call 78; refine (HCQ.out _).mono ?_; rintro e w' ⟨rfl, rfl⟩) | (at_builtin; refine wpList_join elemB rfl _ _ rfl w4.heap.size _ _ _ _ _ _ ([UInt8.ofNat X, UInt8.ofNat Y].map bv) w4 rfl rfl (by simp) rfl hlXY (bv_one _) hown6 hb6 hz6 (by omega) (by omega) ?_))
                          intro v6 w6 hown6' hb6' _ _
                          have hz6' := hb6'.size
                          obtain ⟨-, hAb, -, -, hlb⟩ := IsV.parts (f := bv) (IsB.below HI4.out hb6')
                          have HBM := Lib.hid (show ((pbased base).map bv).length = nb by rw [List.length_map]; exact HNB.out)
                          have hnb8 : nb ≤ 8 := by have := HNB.out; rw [pbased_len] at this; have := HN8.out; omega
                          clear hown6 hb6 hz6 hlXY
                          go_wp2_with (at_builtin; refine wpList_join elemB rfl _ _ rfl w4.heap.size _ _ _ _ _ _ ((pbased base).map bv) w4 rfl rfl hAb HBM.out hlb (bv_one _) hown6' hb6' hz6' (by omega) (by omega) ?_)
                          intro v7 w7 hown7 hb7 _ _
                          have HOUT := Lib.hid hown7
                          have HB7 := Lib.hid (below_then HB.out hb7)
                          have HU7 := Lib.hid (HU4.out.below hb7)
                          have HG7 := Lib.hid (HG4.out.below hb7)
                          have HP7 := Lib.hid (HP4.out.below hb7)
                          have HB47 := Lib.hid hb7
                          have hst : PRowRel (plow us W) w7 (.slice (some ⟨w7.heap.size, 0, none⟩) 0 0) (.int .i64 0) (w7.alloc (.cells #[] 101)) := ⟨0, by omega, rfl, own_made w7 _, (Below.refl _ _).alloc (Nat.le_refl _) _⟩
                          have HST := Lib.hid hst
                          clear hst hown6' hb6' hz6' hown7 hb7 hlb hAb
                          obtain ⟨Au, nu, cu, rfl⟩ := HU7.out.shape
                          have hnu := HU7.out.parts.1
                          have hnun : nu = n := by rw [← hnu]; exact HUL.out
                          have hnu5 : nu ≤ 512 := by omega
                          have HLL := Lib.hid (show (plow us W).length = nu by rw [plow, List.length_map]; exact hnu)
                          have HNU := Lib.hid hnu
                          have HNUN := Lib.hid hnun
                          clear hnu hnun
                          go_wp2
                          go_loopw [20, 21] (PRowRel (plow us W) w7) (fun _ i _ => nu - (intOf i).toNat)
                          case atStart => exact HST.out
                          case round =>
                            obtain ⟨k, hk, rfl, hlow, hbr⟩ := hrel
                            have HSTT := HST
                            clear HST
                            have hk' : k ≤ nu := by have := HLL.out; omega
                            have hz := hbr.size
                            by_cases hlt : k < nu
                            · have hkl : k < us.length := by have := HNU.out; omega
                              have hlti : (k : Int) < (nu : Int) := by omega
                              obtain ⟨adu, hAd, hadl, hcell⟩ := HU7.out.at hkl
                              subst hAd
                              obtain ⟨x, hx⟩ : ∃ x, x = us[k] := ⟨_, rfl⟩
                              have hx64 : x < 18446744073709551616 := by rw [hx]; exact H64.out _ (List.getElem_mem hkl)
                              obtain ⟨z, hz0⟩ : ∃ z, z = x % 2 ^ W := ⟨_, rfl⟩
                              obtain ⟨K, hK⟩ : ∃ K, K = 2 ^ W := ⟨_, rfl⟩
                              obtain ⟨K1, hK1⟩ : ∃ K1, K1 = K - 1 := ⟨_, rfl⟩
                              have hkp : 1 ≤ K := by rw [hK]; exact Nat.one_le_two_pow
                              have hK64 : K < 18446744073709551616 := by rw [hK]; exact Nat.pow_lt_pow_right (by omega) hW64
                              have hKc : (2 : Int) ^ W = (K : Int) := by rw [hK]; simp
                              have hKw : IntKind.u64.wrap (K : Int) = (K : Int) := by rw [IntKind.wrap_u64]; omega
                              have hK1i : (K : Int) - 1 = (K1 : Int) := by omega
                              have hK1w : IntKind.u64.wrap (K1 : Int) = (K1 : Int) := by rw [IntKind.wrap_u64]; omega
                              have hand : bits .and .u64 (x : Int) (K1 : Int) = (z : Int) := by rw [u64_and _ _ (by omega) (by omega) (by omega) (by omega), Int.toNat_natCast, Int.toNat_natCast, hK1, hK, Nat.and_two_pow_sub_one_eq_mod, hz0]
                              have HZ : Hid ((plow us W).take (k + 1) = (plow us W).take k ++ [z]) := Lib.hid (by rw [List.take_succ_eq_append_getElem (by rw [plow, List.length_map]; exact hkl)]; congr 2; rw [hz0, hx]; simp [plow])
                              have hcx : wr.cell? (adu.add k) = some (.int .u64 (x : Int)) := by rw [hbr.cell (by rw [add_block]; exact hadl), hcell, hx]; rfl
                              clear hcell hx hx64 hz0 hK hK1 hkp hK64
                              have HCX := Lib.hid hcx
                              have HADU := Lib.hid hadl
                              have HLOWO := Lib.hid hlow
                              have HBRR := Lib.hid hbr
                              have hadw : adu.block < wr.heap.size := Nat.lt_of_lt_of_le hadl hbr.size
                              have HADW := Lib.hid hadw
                              clear hcx hlow hbr hz hadl hadw
                              go_wp2
                              refine wp_region_list_tail 10 [.is (u20), .is (.slice (some adu) nu cu), .is (.int .i64 (k : Int)), .is (.pointer (some (adu.add k))), .is (.int .u64 (x : Int)), .is (.int .i64 (W : Int)), .is (.int .u64 (K : Int)), .is (.int .u64 (K1 : Int)), .is (.int .u64 (z : Int)), .vals uv [z]] [some 136, some 137, some 138, some 139, some 140, some 141, some 142, some 143, some 144, some 145] (by kernel_rfl) (by kernel_rfl) (by kernel_rfl) (by kernel_rfl) rfl ⟨?_, ?_, ?_, ?_, ?_, ?_, ?_, ?_, ?_, ?_, trivial⟩ ?_
                              · intro ρ W1 hb1 H
                                exact gives_move rfl (H.old 20 _ (by kernel_rfl) rfl) ⟨rfl, Below.refl _ _⟩
                              · intro ρ W1 hb1 H
                                exact gives_move rfl (H.old 11 _ (by kernel_rfl) rfl) ⟨rfl, Below.refl _ _⟩
                              · intro ρ W1 hb1 H
                                exact gives_move rfl (H.old 21 _ (by kernel_rfl) rfl) ⟨rfl, Below.refl _ _⟩
                              · intro ρ W1 hb1 H
                                exact gives_index (k := k) elemU rfl (H.new 137 1 (by kernel_rfl)) (H.new 138 2 (by kernel_rfl)) hlt ⟨rfl, Below.refl _ _⟩
                              · intro ρ W1 hb1 H
                                exact gives_load rfl (H.new 139 3 (by kernel_rfl)) Tryz.underlying101 rfl ((hb1.cell (by rw [add_block]; exact HADW.out)).trans HCX.out) ⟨rfl, Below.refl _ _⟩
                              · intro ρ W1 hb1 H
                                exact gives_move rfl (H.old 1 _ (by kernel_rfl) rfl) ⟨rfl, Below.refl _ _⟩
                              · intro ρ W1 hb1 H
                                exact gives_shl64 (k := W) rfl (H.const _) (H.new 141 5 (by kernel_rfl)) (by omega) (by rw [Int.one_mul, hKc]; exact hKw) ⟨rfl, Below.refl _ _⟩
                              · intro ρ W1 hb1 H
                                exact gives_sub64 rfl (H.new 142 6 (by kernel_rfl)) (H.const _) (by rw [hK1i]; exact hK1w) ⟨rfl, Below.refl _ _⟩
                              · intro ρ W1 hb1 H
                                exact gives_and64 rfl (H.new 140 4 (by kernel_rfl)) (H.new 143 7 (by kernel_rfl)) hand ⟨rfl, Below.refl _ _⟩
                              · intro ρ W1 hb1 H
                                exact gives_val (f := uv) elemU (a := z) rfl (H.new 144 8 (by kernel_rfl)) rfl fun _ _ h hb => ⟨h, hb⟩
                              · intro vs W1 hb1 hfs
                                have f0 : vs 0 = (u20) := hfs 0 (by decide)
                                have f1 : vs 1 = (.slice (some adu) nu cu) := hfs 1 (by decide)
                                have f2 : vs 2 = (.int .i64 (k : Int)) := hfs 2 (by decide)
                                have f3 : vs 3 = (.pointer (some (adu.add k))) := hfs 3 (by decide)
                                have f4 : vs 4 = (.int .u64 (x : Int)) := hfs 4 (by decide)
                                have f5 : vs 5 = (.int .i64 (W : Int)) := hfs 5 (by decide)
                                have f6 : vs 6 = (.int .u64 (K : Int)) := hfs 6 (by decide)
                                have f7 : vs 7 = (.int .u64 (K1 : Int)) := hfs 7 (by decide)
                                have f8 : vs 8 = (.int .u64 (z : Int)) := hfs 8 (by decide)
                                have f9 : IsV uv [z] (vs 9) W1 := hfs 9 (by decide)
                                clear hfs
                                simp only [putAll, Nat.zero_add, Nat.reduceAdd, List.drop_succ_cons, List.drop_zero]
                                rw [f0, f1, f2, f3, f4, f5, f6, f7, f8]
                                clear f0 f1 f2 f3 f4 f5 f6 f7 f8
                                simp only [Act.put, List.setIfInBounds_toArray, List.set_cons_succ, List.set_cons_zero]
                                have hown1 := own_below HLOWO.out hb1
                                have hB1 := HBRR.out.trans (hb1.mono HBRR.out.size)
                                have hz1 := hB1.size
                                obtain ⟨A9, n9, c9, e9⟩ := f9.shape
                                rw [e9] at f9 ⊢
                                obtain ⟨hn9, hA9, -, -, hl9⟩ := f9.parts
                                have hn91 : n9 = 1 := by rw [← hn9]; rfl
                                subst hn91
                                clear e9 hn9 f9
                                go_wp2_with (at_builtin; refine wpList_join elemU rfl _ _ rfl w7.heap.size _ _ _ _ _ _ ([z].map uv) w7 rfl rfl hA9 (by simp) hl9 (by intro u hu; simp at hu; subst hu; rfl) hown1 hB1 hz1 (by omega) (by omega) ?_)
                                intro v9 w9 hown9 hb9 _ _
                                have hrel : PRowRel (plow us W) w7 v9 (.int .i64 ((k : Int) + 1)) w9 := ⟨k + 1, by have := HLL.out; omega, by rw [Int.natCast_add]; rfl, by rw [HZ.out, List.map_append, List.map_take]; exact hown9, hb9⟩
                                have HREL := Lib.hid hrel
                                have hki : IntKind.i64.wrap ((k : Int) + 1) = (k : Int) + 1 := by rw [IntKind.wrap_i64]; omega
                                clear hown9 hb9 hrel hown1 hB1 hz1 hl9 hA9
                                go_wp2
                                go_roundw
                                case rel => exact HREL.out
                                case measure => simp [intOf]; omega
                            · obtain rfl : nu = k := by omega
                              have hlti : ¬ (nu : Int) < (nu : Int) := by omega
                              rw [List.take_of_length_le (by have := HLL.out; omega)] at hlow
                              have HLOW := Lib.hid (isU_own hlow)
                              have hz8 := hbr.size
                              have HOUT8 := Lib.hid (own_below HOUT.out hbr)
                              have HG8 := Lib.hid (HG7.out.below hbr)
                              have HP8 := Lib.hid (HP7.out.below hbr)
                              have HB8 := Lib.hid (HB47.out.trans (hbr.mono HB47.out.size))
                              clear hlow hbr hz8
                              go_wp2_with fail
                              refine (rpack_is (W : Int) HLOW.out (by have := HLL.out; omega) (fun z hz => by obtain ⟨u, hu, rfl⟩ := List.mem_map.1 hz; exact Nat.lt_of_le_of_lt (Nat.mod_le _ _) (H64.out u hu))).mono ?_
                              rw [show packsAny (plow us W) (W : Int) = (bpack (plow us W) W, 0) by rw [packsAny_in _ _ (by omega), packs_ok (fun z hz => by obtain ⟨u, hu, rfl⟩ := List.mem_map.1 hz; exact Nat.mod_lt _ (Nat.two_pow_pos W))]]
                              rintro e w10 ⟨xv, rfl, hxv, hb10⟩
                              have HXV := Lib.hid hxv
                              have HOUT10 := Lib.hid (own_below HOUT8.out hb10)
                              have HG10 := Lib.hid (HG8.out.below hb10)
                              have HP10 := Lib.hid (HP8.out.below hb10)
                              have HB10 := Lib.hid (HB8.out.trans (hb10.mono HB8.out.size))
                              clear hxv hb10
                              generalize wr = wq at *
                              have hst2 : PRowRel (pboth ps P) w10 (.slice (some ⟨w10.heap.size, 0, none⟩) 0 0) (.int .i64 0) (w10.alloc (.cells #[] 101)) := ⟨0, by omega, rfl, own_made w10 _, (Below.refl _ _).alloc (Nat.le_refl _) _⟩
                              have HST2 := Lib.hid hst2
                              clear hst2
                              have HLB := Lib.hid (show (pboth ps P).length = ng by rw [pboth, List.length_map]; exact HNG.out)
                              go_wp2
                              go_loopw [24, 25] (PRowRel (pboth ps P) w10) (fun _ i _ => ng - (intOf i).toNat)
                              case atStart => exact HST2.out
                              case round =>
                                obtain ⟨k, hk, rfl, hboth, hbr⟩ := hrel
                                have HSTT2 := HST2
                                clear HST2
                                have hk' : k ≤ ng := by have := HLB.out; omega
                                have hz := hbr.size
                                by_cases hlt : k < ng
                                · have hkp : k < ps.length := by have := HNG.out; omega
                                  have hlti : (k : Int) < (ng : Int) := by omega
                                  obtain ⟨adg, hAd, hadg, hcg⟩ := HG10.out.at (k := k) (by rw [pgaps, List.length_map]; exact hkp)
                                  subst hAd
                                  obtain ⟨Ap, np, cp, hpv⟩ := HP10.out.shape
                                  have hnp := HP10.out
                                  rw [hpv] at hnp
                                  obtain ⟨adp, hAd, hadp, hcp⟩ := hnp.at (k := k) (by rw [ppats, List.length_map]; exact hkp)
                                  have hnpl := hnp.parts.1
                                  rw [ppats, List.length_map] at hnpl
                                  subst hAd hpv
                                  obtain ⟨x, hx⟩ : ∃ x, x = ps[k].1 := ⟨_, rfl⟩
                                  obtain ⟨y, hy⟩ : ∃ y, y = ps[k].2 := ⟨_, rfl⟩
                                  have hcx : wr.cell? (adg.add k) = some (.int .i64 (x : Int)) := by rw [hbr.cell (by rw [add_block]; exact hadg), hcg, hx]; simp [pgaps, iv]
                                  have hcy : wr.cell? (adp.add k) = some (.int .u64 (y : Int)) := by rw [hbr.cell (by rw [add_block]; exact hadp), hcp, hy]; simp [ppats, uv]
                                  have hxy := HQ2.out _ (List.getElem_mem hkp)
                                  rw [← hx, ← hy, HGG.out, HPP.out] at hxy
                                  have hx8 : x ≤ 255 := by rw [hx]; exact (HQ.out _ (List.getElem_mem hkp)).1
                                  obtain ⟨S, hS⟩ : ∃ S, S = x * 2 ^ P := ⟨_, rfl⟩
                                  obtain ⟨Z, hZ⟩ : ∃ Z, Z = S + y := ⟨_, rfl⟩
                                  have hZ64 : Z < 18446744073709551616 := by
                                    have h1 : (x + 1) * 2 ^ P ≤ 2 ^ G * 2 ^ P := Nat.mul_le_mul_right _ hxy.1
                                    rw [← Nat.pow_add, Nat.add_mul] at h1
                                    have h2 : 2 ^ (G + P) ≤ 2 ^ 64 := Nat.pow_le_pow_right (by omega) (by omega)
                                    have h3 : (2 : Nat) ^ 64 = 18446744073709551616 := by decide
                                    omega
                                  have hSc : (x : Int) * 2 ^ P = (S : Int) := by rw [hS]; simp
                                  have hxw : IntKind.u64.wrap (x : Int) = (x : Int) := by rw [IntKind.wrap_u64]; omega
                                  have hSw : IntKind.u64.wrap (S : Int) = (S : Int) := by rw [IntKind.wrap_u64]; omega
                                  have hZi : (S : Int) + (y : Int) = (Z : Int) := by omega
                                  have hZw : IntKind.u64.wrap (Z : Int) = (Z : Int) := by rw [IntKind.wrap_u64]; omega
                                  have HZ : Hid ((pboth ps P).take (k + 1) = (pboth ps P).take k ++ [Z]) := Lib.hid (by rw [List.take_succ_eq_append_getElem (by rw [pboth, List.length_map]; exact hkp)]; congr 2; rw [hZ, hS, hx, hy]; simp [pboth])
                                  have hknp : (k : Int) < (np : Int) := by omega
                                  have hnp0 : 0 ≤ np := Nat.zero_le _
                                  clear hcg hcp hx hy hxy hS hZ hZ64 hnp hnpl
                                  have HCX := Lib.hid hcx
                                  have HCY := Lib.hid hcy
                                  have HADX := Lib.hid (show adg.block < wr.heap.size from Nat.lt_of_lt_of_le hadg hbr.size)
                                  have HADY := Lib.hid (show adp.block < wr.heap.size from Nat.lt_of_lt_of_le hadp hbr.size)
                                  have HBOO := Lib.hid hboth
                                  have HBRR := Lib.hid hbr
                                  clear hcx hcy hboth hbr hz hadg hadp
                                  go_wp2
                                  refine wp_region_list_tail 14 [.is (u24), .is (.slice (some adg) ng cg), .is (.int .i64 (k : Int)), .is (.pointer (some (adg.add k))), .is (.int .i64 (x : Int)), .is (.int .u64 (x : Int)), .is (.int .i64 (P : Int)), .is (.int .u64 (S : Int)), .is (.slice (some adp) np cp), .is (.int .i64 (k : Int)), .is (.pointer (some (adp.add k))), .is (.int .u64 (y : Int)), .is (.int .u64 (Z : Int)), .vals uv [Z]] [some 160, some 161, some 162, some 163, some 164, some 165, some 166, some 167, some 168, some 169, some 170, some 171, some 172, some 173] (by kernel_rfl) (by kernel_rfl) (by kernel_rfl) (by kernel_rfl) rfl ⟨?_, ?_, ?_, ?_, ?_, ?_, ?_, ?_, ?_, ?_, ?_, ?_, ?_, ?_, trivial⟩ ?_
                                  · intro ρ W1 hb1 H
                                    exact gives_move rfl (H.old 24 _ (by kernel_rfl) rfl) ⟨rfl, Below.refl _ _⟩
                                  · intro ρ W1 hb1 H
                                    exact gives_move rfl (H.old 13 _ (by kernel_rfl) rfl) ⟨rfl, Below.refl _ _⟩
                                  · intro ρ W1 hb1 H
                                    exact gives_move rfl (H.old 25 _ (by kernel_rfl) rfl) ⟨rfl, Below.refl _ _⟩
                                  · intro ρ W1 hb1 H
                                    exact gives_index (k := k) elemI rfl (H.new 161 1 (by kernel_rfl)) (H.new 162 2 (by kernel_rfl)) hlt ⟨rfl, Below.refl _ _⟩
                                  · intro ρ W1 hb1 H
                                    exact gives_load rfl (H.new 163 3 (by kernel_rfl)) Tryz.underlying3 rfl ((hb1.cell (by rw [add_block]; exact HADX.out)).trans HCX.out) ⟨rfl, Below.refl _ _⟩
                                  · intro ρ W1 hb1 H
                                    exact gives_conv rfl (H.new 164 4 (by kernel_rfl)) (by rw [Tryz.underlying3]; rfl) Tryz.underlying101 hxw ⟨rfl, Below.refl _ _⟩
                                  · intro ρ W1 hb1 H
                                    exact gives_move rfl (H.old 17 _ (by kernel_rfl) rfl) ⟨rfl, Below.refl _ _⟩
                                  · intro ρ W1 hb1 H
                                    exact gives_shl64 (k := P) rfl (H.new 165 5 (by kernel_rfl)) (H.new 166 6 (by kernel_rfl)) p64 (by rw [hSc]; exact hSw) ⟨rfl, Below.refl _ _⟩
                                  · intro ρ W1 hb1 H
                                    exact gives_move rfl (H.old 14 _ (by kernel_rfl) rfl) ⟨rfl, Below.refl _ _⟩
                                  · intro ρ W1 hb1 H
                                    exact gives_move rfl (H.old 25 _ (by kernel_rfl) rfl) ⟨rfl, Below.refl _ _⟩
                                  · intro ρ W1 hb1 H
                                    exact gives_index (k := k) elemU rfl (H.new 168 8 (by kernel_rfl)) (H.new 169 9 (by kernel_rfl)) (by omega) ⟨rfl, Below.refl _ _⟩
                                  · intro ρ W1 hb1 H
                                    exact gives_load rfl (H.new 170 10 (by kernel_rfl)) Tryz.underlying101 rfl ((hb1.cell (by rw [add_block]; exact HADY.out)).trans HCY.out) ⟨rfl, Below.refl _ _⟩
                                  · intro ρ W1 hb1 H
                                    exact gives_add64 rfl (H.new 167 7 (by kernel_rfl)) (H.new 171 11 (by kernel_rfl)) (by rw [hZi]; exact hZw) ⟨rfl, Below.refl _ _⟩
                                  · intro ρ W1 hb1 H
                                    exact gives_val (f := uv) elemU (a := Z) rfl (H.new 172 12 (by kernel_rfl)) rfl fun _ _ h hb => ⟨h, hb⟩
                                  · intro vs W1 hb1 hfs
                                    have f0 : vs 0 = (u24) := hfs 0 (by decide)
                                    have f1 : vs 1 = (.slice (some adg) ng cg) := hfs 1 (by decide)
                                    have f2 : vs 2 = (.int .i64 (k : Int)) := hfs 2 (by decide)
                                    have f3 : vs 3 = (.pointer (some (adg.add k))) := hfs 3 (by decide)
                                    have f4 : vs 4 = (.int .i64 (x : Int)) := hfs 4 (by decide)
                                    have f5 : vs 5 = (.int .u64 (x : Int)) := hfs 5 (by decide)
                                    have f6 : vs 6 = (.int .i64 (P : Int)) := hfs 6 (by decide)
                                    have f7 : vs 7 = (.int .u64 (S : Int)) := hfs 7 (by decide)
                                    have f8 : vs 8 = (.slice (some adp) np cp) := hfs 8 (by decide)
                                    have f9 : vs 9 = (.int .i64 (k : Int)) := hfs 9 (by decide)
                                    have f10 : vs 10 = (.pointer (some (adp.add k))) := hfs 10 (by decide)
                                    have f11 : vs 11 = (.int .u64 (y : Int)) := hfs 11 (by decide)
                                    have f12 : vs 12 = (.int .u64 (Z : Int)) := hfs 12 (by decide)
                                    have f13 : IsV uv [Z] (vs 13) W1 := hfs 13 (by decide)
                                    clear hfs
                                    simp only [putAll, Nat.zero_add, Nat.reduceAdd, List.drop_succ_cons, List.drop_zero]
                                    rw [f0, f1, f2, f3, f4, f5, f6, f7, f8, f9, f10, f11, f12]
                                    clear f0 f1 f2 f3 f4 f5 f6 f7 f8 f9 f10 f11 f12
                                    simp only [Act.put, List.setIfInBounds_toArray, List.set_cons_succ, List.set_cons_zero]
                                    have hown1 := own_below HBOO.out hb1
                                    have hB1 := HBRR.out.trans (hb1.mono HBRR.out.size)
                                    have hz1 := hB1.size
                                    obtain ⟨A9, n9, c9, e9⟩ := f13.shape
                                    rw [e9] at f13 ⊢
                                    obtain ⟨hn9, hA9, -, -, hl9⟩ := f13.parts
                                    have hn91 : n9 = 1 := by rw [← hn9]; rfl
                                    subst hn91
                                    clear e9 hn9 f13
                                    go_wp2_with (at_builtin; refine wpList_join elemU rfl _ _ rfl w10.heap.size _ _ _ _ _ _ ([Z].map uv) w10 rfl rfl hA9 (by simp) hl9 (by intro u hu; simp at hu; subst hu; rfl) hown1 hB1 hz1 (by omega) (by omega) ?_)
                                    intro v9 w9 hown9 hb9 _ _
                                    have hrel : PRowRel (pboth ps P) w10 v9 (.int .i64 ((k : Int) + 1)) w9 := ⟨k + 1, by have := HLB.out; omega, by rw [Int.natCast_add]; rfl, by rw [HZ.out, List.map_append, List.map_take]; exact hown9, hb9⟩
                                    have HREL := Lib.hid hrel
                                    have hki : IntKind.i64.wrap ((k : Int) + 1) = (k : Int) + 1 := by rw [IntKind.wrap_i64]; omega
                                    clear hown9 hb9 hrel hown1 hB1 hz1 hl9 hA9
                                    go_wp2
                                    go_roundw
                                    case rel => exact HREL.out
                                    case measure => simp [intOf]; omega
                                · obtain rfl : ng = k := by omega
                                  have hlti2 : ¬ (ng : Int) < (ng : Int) := by omega
                                  rw [List.take_of_length_le (by have := HLB.out; omega)] at hboth
                                  have HBO := Lib.hid (isU_own hboth)
                                  have HOUT12 := Lib.hid (own_below HOUT10.out hbr)
                                  have HXV12 := Lib.hid (IsB.below HXV.out hbr)
                                  have HB12 := Lib.hid (HB10.out.trans (hbr.mono HB10.out.size))
                                  clear hboth hbr hz
                                  have HCL2 := Lib.hid (fun X => rclosest_any (GP : Int) X)
                                  rw [HW2.out] at HCL2
                                  go_wp2_with (go_at_call 74; refine (HCL2.out _).mono ?_; rintro e w' ⟨rfl, rfl⟩)
                                  refine (rpack_isO (W2 : Int) HBO.out (by have := HLB.out; omega) (fun z hz => Nat.lt_of_lt_of_le (pboth_lt HQ3.out z hz) (Nat.pow_le_pow_right (by omega) (by omega)))).mono ?_
                                  rw [show packsAny (pboth ps P) (W2 : Int) = (bpack (pboth ps P) W2, 0) by rw [packsAny_in _ _ HW2b.out.1, packs_ok (fun z hz => Nat.lt_of_lt_of_le (pboth_lt HQ3.out z hz) (Nat.pow_le_pow_right (by omega) (by rw [← HGPN.out]; exact HW2b.out.2)))]]
                                  rintro e w13 ⟨yv, rfl, hyv, hb13⟩
                                  have HOUTW := Lib.hid HOUT12.out
                                  have hown13 := own_below HOUT12.out hb13
                                  have hb413 := HB12.out.trans (hb13.mono HB12.out.size)
                                  have hz13 := hb413.size
                                  obtain ⟨Ax, nx, cx, rfl⟩ := IsV.shape (f := bv) HXV12.out
                                  obtain ⟨hnx, hAx, -, -, hlx⟩ := IsV.parts (f := bv) (IsB.below HXV12.out hb13)
                                  have hnxb : nx ≤ 5000 := by rw [← hnx, bpack_len]; exact Nat.le_trans (bsize_small (by have := HLL.out; omega) (by omega)) (by omega)
                                  have HNX := Lib.hid (show ((bpack (plow us W) W).map bv).length = nx by rw [List.length_map]; exact hnx)
                                  have HYV := Lib.hid hyv
                                  have HB13 := Lib.hid hb413
                                  clear hyv hb13 hnx
                                  go_wp2_with (at_builtin; refine wpList_join elemB rfl _ _ rfl w4.heap.size _ _ _ _ _ _ ((bpack (plow us W) W).map bv) w4 rfl rfl hAx HNX.out hlx (bv_one _) hown13 hb413 hz13 (by omega) (by omega) ?_)
                                  intro v14 w14 hown14 hb14 hgr14 _
                                  have hz14 := hb14.size
                                  have hyv14 := own_fresh HOUTW.out HYV.out hgr14
                                  obtain ⟨Ay, cy, hvy, hncy, hcmy, -, hly, hlny⟩ := own_shape hyv14
                                  obtain ⟨ny, hny⟩ : ∃ ny, ny = (bpack (pboth ps P) W2).length := ⟨_, rfl⟩
                                  rw [← hny] at hvy hncy
                                  have hnyb : ny ≤ 5000 := by rw [hny, bpack_len]; exact Nat.le_trans (bsize_small (by have := HLB.out; omega) HW2b.out.1) (by omega)
                                  have hAy : Ay = none → ny = 0 := by
                                    intro h
                                    subst h
                                    rcases hly with hly | ⟨_, h, _⟩
                                    · have := congrArg List.length hly; rw [List.length_map] at this; rw [hny]; simpa using this
                                    · cases h
                                  have HNY := Lib.hid (show ((bpack (pboth ps P) W2).map bv).length = ny by rw [List.length_map, hny])
                                  subst hvy
                                  clear hny hlny hcmy hncy hyv14 hgr14 hown13 hb413 hz13 hlx hAx
                                  go_wp2_with (at_builtin; refine wpList_join elemB rfl _ _ rfl w4.heap.size _ _ _ _ _ _ ((bpack (pboth ps P) W2).map bv) w4 rfl rfl hAy HNY.out hly (bv_one _) hown14 hb14 hz14 (by omega) (by omega) ?_)
                                  intro v15 w15 hown15 hb15 _ _
                                  have HO15 : Hid (IsB (play base us W) v15 w15) := Lib.hid (by
                                    unfold play
                                    rw [HPS.out, HXY.out, HPP.out, HGG.out, ← HGPN.out, ← HW2E.out, show us.length = n from HUL.out, ← HCWD.out]
                                    refine isB_own (n := 4 + nb + nx + ny) (base := w4.heap.size) (e := 5) ?_
                                    simpa only [List.map_append, List.map_cons, List.map_nil, List.append_assoc, List.cons_append, List.nil_append] using hown15)
                                  have HB15 := Lib.hid (below_then HB.out hb15)
                                  clear hown15 hb15 hown14 hb14 hz14 hly hAy
                                  go_wp2
                                  go_ret2
                                  rw [hE.out]
                                  exact ⟨_, rfl, HO15.out, HB15.out⟩
end Go.Proofs.YtblpkmmhmdpkjaaGreatDoor

/- The contract of layer 10's reference's Take. -/









namespace Go.Proofs.YtblpkmmhmdpkjaaGreatDoor

open Go.RowKit

theorem grown_trans {a b c : World} {g : Option Nat} (h1 : a.grownBy b g) (h2 : b.grownBy c g) : a.grownBy c g :=
  ⟨h2.os.trans h1.os, h2.tape.trans h1.tape, h2.output.trans h1.output, Nat.le_trans h1.size h2.size, fun k hk hg => (h2.block k (Nat.lt_of_lt_of_le hk h1.size) hg).trans (h1.block k hk hg)⟩
theorem grown_below {a b : World} {g : Option Nat} (h : Below a.heap.size a b) : a.grownBy b g := ⟨h.os, h.tape, h.output, h.size, fun k hk _ => h.block k hk⟩
end Go.Proofs.YtblpkmmhmdpkjaaGreatDoor

/- patched's own contracts: lowest, isCount, isWidth, and a shape's methods hasRoom and pairWidth. -/







namespace Go.Proofs.YtblpkmmhmdpkjaaGreatDoor

open Go.RowKit

theorem plow_any (n L : Nat) (w : World) (h : n ≤ 64) (hL : L = 2 ^ n - 1) : Calls Tryz.prog 197 #[.int .i64 (n : Int)] w fun e w' => e = .returned (.int .u64 (L : Int)) ∧ w = w' := by
  have h1 : 2 ^ n ≤ 2 ^ 64 := Nat.pow_le_pow_right (by omega) h
  have h2 : 1 ≤ 2 ^ n := Nat.one_le_two_pow
  have h3 : ((2 ^ n : Nat) : Int) = 2 ^ n := by simp
  have HE : Hid (IntKind.u64.wrap (IntKind.u64.wrap (2 ^ n) - 1) = (L : Int)) := Lib.hid (by
    rw [← h3, IntKind.wrap_u64, IntKind.wrap_u64, hL]
    generalize 2 ^ n = p at *
    omega)
  clear h1 h2 h3 hL
  go_enter Tryz.func197, Tryz.ntmps197
  go_wp2
  go_ret
  exact ⟨ret_int HE.out, rfl⟩
theorem pcount_yes (n : Int) (w : World) (h0 : 1 ≤ n) (h1 : n ≤ 512) : Calls Tryz.prog 185 #[.int .i64 n] w fun e w' => e = .returned (.bool true) ∧ w = w' := by
  go_enter Tryz.func185, Tryz.ntmps185
  go_wp2
  go_ret
  exact ⟨rfl, rfl⟩
theorem pcount_no (n : Int) (w : World) (h : n < 1 ∨ 512 < n) : Calls Tryz.prog 185 #[.int .i64 n] w fun e w' => e = .returned (.bool false) ∧ w = w' := by
  rcases h with h | h
  · have h2 : decide (1 ≤ n) = false := by simp; omega
    go_enter Tryz.func185, Tryz.ntmps185
    go_wp2
    go_ret
    exact ⟨rfl, rfl⟩
  · have h2 : decide (n ≤ 512) = false := by simp; omega
    have h3 : decide (1 ≤ n) = true := by simp; omega
    go_enter Tryz.func185, Tryz.ntmps185
    go_wp2
    go_ret
    exact ⟨rfl, rfl⟩
theorem pisw_any (W : Int) (w : World) (ht : WTab w) : Calls Tryz.prog 186 #[.int .i64 W] w fun e w' => e = .returned (.bool (decide (W < 64) && decide (0 ≤ wcode W))) ∧ w = w' := by
  have HC := Lib.hid (code_any W w ht)
  obtain ⟨c, hc⟩ : ∃ c, c = wcode W := ⟨_, rfl⟩
  rw [← hc] at HC ⊢
  clear ht hc
  by_cases h : W < 64
  · have h1 : decide (W < 64) = true := decide_eq_true h
    rw [h1, Bool.true_and]
    obtain ⟨d, hd⟩ : ∃ d, d = decide (0 ≤ c) := ⟨_, rfl⟩
    have hd' := hd.symm
    rw [hd']
    clear hd h
    go_enter Tryz.func186, Tryz.ntmps186
    go_wp2_with (go_at_call 142; refine HC.out.mono ?_; rintro e w' ⟨rfl, rfl⟩)
    go_ret
    exact ⟨rfl, rfl⟩
  · have h1 : decide (W < 64) = false := decide_eq_false h
    rw [h1, Bool.false_and]
    clear h
    go_enter Tryz.func186, Tryz.ntmps186
    go_wp2
    go_ret
    exact ⟨rfl, rfl⟩
/-- A shape's cells. -/
def shc (m W n p g t : Int) : List Value := [.int .i64 m, .int .i64 W, .int .i64 n, .int .i64 p, .int .i64 g, .int .i64 t]
def shv (m W n p g t : Int) : Value := .agg (shc m W n p g t).toArray
theorem shc_one (m W n p g t : Int) : ∀ u ∈ shc m W n p g t, u.oneCell' = true := by
  intro u hu
  simp only [shc, List.mem_cons, List.not_mem_nil, or_false] at hu
  rcases hu with h | h | h | h | h | h <;> (subst h; rfl)
theorem proom_any (m W n p g t : Int) (w : World) (hp : 0 ≤ p ∧ p ≤ 1000) (hg : 0 ≤ g ∧ g ≤ 1000) : Calls Tryz.prog 191 #[shv m W n p g t] w fun e w' => e = .returned (.bool (decide (g + p ≤ 64))) ∧ Below w.heap.size w w' := by
  have hw : IntKind.i64.wrap (g + p) = g + p := by rw [IntKind.wrap_i64]; omega
  obtain ⟨x, hx⟩ : ∃ x, x = g + p := ⟨_, rfl⟩
  rw [← hx] at hw ⊢
  have hx' := hx.symm
  obtain ⟨d, hd⟩ : ∃ d, d = decide (x ≤ 64) := ⟨_, rfl⟩
  have hd' := hd.symm
  rw [hd']
  clear hx hd hp hg
  unfold shv shc
  go_enter Tryz.func191, Tryz.ntmps191
  go_wp2
  go_ret
  exact ⟨rfl, (Below.refl _ _).alloc (Nat.le_refl _) _⟩
theorem ppair_any (m W n p g t : Int) (w : World) (ht : WTab w) (hp : 0 ≤ p ∧ p ≤ 1000) (hg : 0 ≤ g ∧ g ≤ 1000) : Calls Tryz.prog 162 #[shv m W n p g t] w fun e w' => e = .returned (.int .i64 (wclosest (g + p))) ∧ Below w.heap.size w w' := by
  have hw : IntKind.i64.wrap (g + p) = g + p := by rw [IntKind.wrap_i64]; omega
  obtain ⟨x, hx⟩ : ∃ x, x = g + p := ⟨_, rfl⟩
  rw [← hx] at hw ⊢
  have hx' := hx.symm
  have HC := Lib.hid (fun W (h : WTab W) => closest_any x W h)
  have HT := Lib.hid (ht.below ((Below.refl w.heap.size w).alloc (Nat.le_refl _) (.cells (shc m W n p g t).toArray 181)) ht.lt)
  unfold shc at HT
  clear hx hp hg ht
  unfold shv shc
  go_enter Tryz.func162, Tryz.ntmps162
  go_wp2_with (go_at_call 138; refine (HC.out _ HT.out).mono ?_; rintro e w' ⟨rfl, rfl⟩)
  go_ret
  exact ⟨rfl, (Below.refl _ _).alloc (Nat.le_refl _) _⟩
end Go.Proofs.YtblpkmmhmdpkjaaGreatDoor

/- patched's own contracts: digitsOf (a base as bytes), number (the base that bytes are). -/





namespace Go.Proofs.YtblpkmmhmdpkjaaGreatDoor

open Go.RowKit

theorem gdiff_base {base : Int} (hb : inInt base) (hne : base ≠ -9223372036854775808) : gdiff 0 base = (psize base, decide (base < 0), true) := by
  unfold inInt at hb
  unfold psize
  rcases gdiff_cases 0 base with ⟨_, k⟩ | ⟨k1, _, k⟩ | ⟨k1, _, k⟩
  · omega
  · rw [k, decide_eq_true k1]
  · rw [k, decide_eq_false (by omega)]
theorem gdiff_least : gdiff 0 (-9223372036854775808) = (0, false, false) := by decide
theorem digits_no (w : World) : Calls Tryz.prog 187 #[.int .i64 (-9223372036854775808)] w fun e w' => e = .returned (.tuple #[.slice none 0 0, .bool false]) ∧ Below w.heap.size w w' := by
  have HD := Lib.hid (tdiff_any 0 (-9223372036854775808) w (by unfold inInt; omega) (by unfold inInt; omega))
  rw [gdiff_least] at HD
  go_enter Tryz.func187, Tryz.ntmps187
  go_wp2_with fail
  refine HD.out.mono ?_
  rintro e w1 ⟨rfl, hb1⟩
  go_wp2
  go_ret2
  exact ⟨rfl, hb1⟩
/-- The bytes are laid from the last one on. -/
def DgRel (S n g : Nat) (w : World) (i : Value) (wr : World) : Prop := ∃ k : Nat, k ≤ n ∧ i = .int .i64 (k : Int) ∧ Row wr g 5 ((List.replicate (n - k) (0 : UInt8) ++ be k S).map bv) ∧ Below w.heap.size w wr
theorem dg_step {S n k : Nat} (hk : k < n) : (List.replicate (n - k) (0 : UInt8) ++ be k S).set (n - 1 - k) (UInt8.ofNat (S / 256 ^ k % 256)) = List.replicate (n - (k + 1)) 0 ++ be (k + 1) S := by
  obtain ⟨m, hm⟩ : ∃ m, n - k = m + 1 := ⟨n - k - 1, by omega⟩
  rw [hm, show n - 1 - k = m by omega, show n - (k + 1) = m by omega, List.replicate_succ', List.append_assoc, List.set_append_right _ _ (by simp), List.length_replicate, Nat.sub_self]
  rfl
def RetDg (base : Int) (w : World) (e : Ending) (w' : World) : Prop :=
  ∃ g, e = .returned (.tuple #[.slice (some ⟨g, 0, none⟩) (pn base) (pn base), .bool true]) ∧ w.heap.size ≤ g ∧ Row w' g 5 ((pbased base).map bv) ∧ Below w.heap.size w w'
set_option maxHeartbeats 2000000 in
set_option maxRecDepth 100000 in
theorem digits_yes (base : Int) (w : World) (hb : inInt base) (hne : base ≠ -9223372036854775808) : Calls Tryz.prog 187 #[.int .i64 base] w (RetDg base w) := by
  obtain ⟨_, hlt⟩ := psize_base hb hne
  obtain ⟨n1, n8, hS8⟩ := pn_bd hlt
  have hg := gdiff_base hb hne
  unfold RetDg
  obtain ⟨S, hS⟩ : ∃ S, S = psize base := ⟨_, rfl⟩
  obtain ⟨n, hn⟩ : ∃ n, n = pn base := ⟨_, rfl⟩
  obtain ⟨f, hf⟩ : ∃ f, f = decide (base < 0) := ⟨_, rfl⟩
  rw [← hS, ← hf] at hg
  have HD := Lib.hid (tdiff_any 0 base w (by unfold inInt; omega) hb)
  rw [hg] at HD
  have hpb : pbased base = be n (S + if f = true then 2 ^ (8 * n - 1) else 0) := by
    unfold pbased
    rw [← hS, ← hn]
    congr 2
    rw [hf]
    by_cases h : base < 0
    · rw [if_pos h, if_pos (by simpa using h)]
    · rw [if_neg h, if_neg (by simpa using h)]
  obtain ⟨B, hB⟩ : ∃ B, B = wbits S := ⟨_, rfl⟩
  have HBI := Lib.hid (fun W => bits_any S W (by rw [hS]; show psize base < 18446744073709551616; omega))
  rw [← hB] at HBI
  obtain ⟨Q, hQ⟩ : ∃ Q, Q = B / 8 := ⟨_, rfl⟩
  have hnq : n = Q + 1 := by rw [hn, hQ, hB, hS]; rfl
  have hBq : (B : Int) / 8 = (Q : Int) := by omega
  rw [← hn] at n1 n8 hS8 ⊢
  rw [← hS] at hS8
  have HPB := Lib.hid hpb
  have HS8 := Lib.hid hS8
  have hQn : (Q : Int) + 1 = (n : Int) := by omega
  have hnw : IntKind.i64.wrap (n : Int) = (n : Int) := by rw [IntKind.wrap_i64]; omega
  clear hlt hS hn hf hg hpb hB hQ hnq hS8 hb hne
  go_enter Tryz.func187, Tryz.ntmps187
  go_wp2_with fail
  refine HD.out.mono ?_
  rintro e w1 ⟨rfl, hb1⟩
  have HB1 := Lib.hid hb1
  have hz1 := hb1.size
  clear hb1
  go_wp2_with (first | (go_at_call 171; refine (HBI.out _).mono ?_; rintro e w' ⟨rfl, rfl⟩) | (refine wpList_make elemB rfl _ _ rfl _ _ _ _ n w w.heap.size rfl rfl (by first | exact hQn | rfl) (by first | exact hQn | rfl) (by omega) (by omega) HB1.out hz1 ?_))
  intro w2 hr2 hb2
  have HS := Lib.hid (show DgRel S n w1.heap.size w (.int .i64 0) w2 from ⟨0, Nat.zero_le _, rfl, by rw [Nat.sub_zero]; simpa [be] using hr2, hb2⟩)
  clear hr2 hb2
  go_wp2
  go_loopw [24] (DgRel S n w1.heap.size w) (fun i _ => n - (intOf i).toNat)
  case atStart => exact HS.out
  case round =>
    obtain ⟨k, hk, rfl, hr, hbw⟩ := hrel
    have HBW := Lib.hid hbw
    have hgr := hr.lt
    by_cases hlt : k < n
    · have hlti : (k : Int) < (n : Int) := by omega
      obtain ⟨I, hI⟩ : ∃ I, I = n - 1 - k := ⟨_, rfl⟩
      have hIi : (n : Int) - 1 - (k : Int) = (I : Int) := by omega
      have hn1 : IntKind.i64.wrap ((n : Int) - 1) = (n : Int) - 1 := by rw [IntKind.wrap_i64]; omega
      have hIw : IntKind.i64.wrap (I : Int) = (I : Int) := by rw [IntKind.wrap_i64]; omega
      obtain ⟨T, hT⟩ : ∃ T, T = S / 2 ^ (8 * k) := ⟨_, rfl⟩
      obtain ⟨M, hM⟩ : ∃ M, M = 8 * k := ⟨_, rfl⟩
      have hMi : 8 * (k : Int) = (M : Int) := by omega
      have hMw : IntKind.i64.wrap (M : Int) = (M : Int) := by rw [IntKind.wrap_i64]; omega
      have hsh : (S : Int) / 2 ^ M = (T : Int) := by rw [hT, hM]; simp
      obtain ⟨C, hC⟩ : ∃ C, C = T % 256 := ⟨_, rfl⟩
      have hC256 : C < 256 := by omega
      have hCw : IntKind.u8.wrap (T : Int) = (C : Int) := by rw [IntKind.wrap_u8]; omega
      have hTm : (T : Int) % 256 = (C : Int) := by omega
      have hset := row_set hr I C hC256
      rw [hC, hT, ← p256, hI, dg_step hlt, ← hI, p256, ← hT, ← hC] at hset
      have HSET := Lib.hid hset
      have HB3 := Lib.hid (hbw.setCell (p := ⟨w1.heap.size, I, none⟩) hz1 (.int .u8 (C : Int)))
      have hcu : ∃ u, wr.cell? ⟨w1.heap.size, I, none⟩ = some u := by
        rw [hr.cell]
        exact ⟨_, List.getElem?_eq_getElem (by simp [be_len]; omega)⟩
      obtain ⟨u0, hcu⟩ := hcu
      have hfr := hr.free I
      have hIn : (I : Int) < (n : Int) := by omega
      have hM64 : M < 64 := by omega
      clear hset hr hT hC hI hM hbw
      go_wp2
      go_roundw
      case rel => exact ⟨k + 1, hlt, by go_num, HSET.out, HB3.out⟩
      case measure => simp [intOf]; omega
    · obtain rfl : k = n := by omega
      rw [Nat.sub_self, List.replicate_zero, List.nil_append] at hr
      clear hbw
      cases f with
      | false =>
        have HE : Hid (pbased base = be k S) := Lib.hid (by rw [HPB.out]; rfl)
        have HO := Lib.hid hr
        clear hr
        go_wp2
        go_ret2
        rw [HE.out]
        exact ⟨_, rfl, hz1, HO.out, HBW.out⟩
      | true =>
        have HE : Hid (pbased base = be k (S + 2 ^ (8 * k - 1))) := Lib.hid (by rw [HPB.out]; rfl)
        obtain ⟨b0, hb0⟩ : ∃ b0, b0 = S / 256 ^ (k - 1) % 256 := ⟨_, rfl⟩
        obtain ⟨hb1, hbe⟩ := be_signed n1 HS8.out hb0
        have hc0 : wr.cell? ⟨w1.heap.size, 0, none⟩ = some (.int .u8 (b0 : Int)) := by
          rw [hr.cell, List.getElem?_map, List.getElem?_eq_getElem (by rw [be_len]; omega), be_get, Nat.sub_zero, ← hb0]
          show some (bv (UInt8.ofNat b0)) = _
          rw [← bv_low7 (by omega)]
        have hf0 := hr.free 0
        obtain ⟨C, hC⟩ : ∃ C, C = b0 + 128 := ⟨_, rfl⟩
        have hor : bits .or .u8 (b0 : Int) 128 = (C : Int) := by rw [u8_or128 _ (by omega) (by omega)]; omega
        have hst := row_set hr 0 C (by omega)
        rw [hC, hbe, ← hC] at hst
        have HO := Lib.hid hst
        have HB := Lib.hid (HBW.out.setCell (p := ⟨w1.heap.size, 0, none⟩) hz1 (.int .u8 (C : Int)))
        have hn0 : (0 : Int) < (k : Int) := by omega
        clear hst hr hb0 hbe hC
        go_wp2
        go_ret2
        rw [HE.out]
        exact ⟨_, rfl, hz1, HO.out, HB.out⟩
end Go.Proofs.YtblpkmmhmdpkjaaGreatDoor

/- patched's own contracts: sizesFrom, numbersFrom. -/



namespace Go.Proofs.YtblpkmmhmdpkjaaGreatDoor

open Go.RowKit

/-- Numbers in a row of the call's own, or none. -/
def RetSz (o : Option (List Nat)) (w : World) (e : Ending) (w' : World) : Prop :=
  match o with
  | none => e = .returned (.tuple #[.slice none 0 0, .bool false]) ∧ Below w.heap.size w w'
  | some us => ∃ g, e = .returned (.tuple #[.slice (some ⟨g, 0, none⟩) us.length us.length, .bool true]) ∧ w.heap.size ≤ g ∧ Row w' g 101 (us.map uv) ∧ Below w.heap.size w w'
set_option maxHeartbeats 2000000 in
set_option maxRecDepth 100000 in
theorem sizes_any (base : Int) (l : List Int) (v : Value) (w : World) (hv : IsV iv l v w) (hbi : inInt base) (hl : ∀ x ∈ l, inInt x) (hb : l.length ≤ 1000000) :
    Calls Tryz.prog 188 #[.int .i64 base, v] w (RetSz (omap (pone base) l) w) := by
  obtain ⟨A, n, c, rfl⟩ := hv.shape
  have HN := Lib.hid hv.parts.1
  have HV := Lib.hid hv
  have HL := Lib.hid hl
  have hn6 : n ≤ 1000000 := by have := HN.out; omega
  clear hv hl hb
  go_enter Tryz.func188, Tryz.ntmps188
  go_wp2_with (refine wpList_make elemU rfl _ _ rfl _ _ _ _ n w w.heap.size rfl rfl rfl rfl (by omega) (by omega) (Below.refl _ _) (Nat.le_refl _) ?_)
  intro w1 hr1 hb1
  have HS := Lib.hid (show FillRel (pone base) uv (uv 0) 101 l w (.int .i64 0) w1 from ⟨0, [], Nat.zero_le _, rfl, rfl, by rw [Nat.sub_zero, HN.out]; simpa [uv] using hr1, hb1⟩)
  clear hr1 hb1
  go_wp2
  go_loopw [17] (FillRel (pone base) uv (uv 0) 101 l w) (fun i _ => n - (intOf i).toNat)
  case atStart => exact HS.out
  case round =>
    obtain ⟨k, acc, hk, rfl, hacc, hr, hbw⟩ := hrel
    have hal : acc.length = k := by rw [omap_len hacc, List.length_take]; omega
    rw [HN.out] at hr
    have HACC := Lib.hid hacc
    have HAL := Lib.hid hal
    have HB := Lib.hid hbw
    have HR := Lib.hid hr
    have hk' : k ≤ n := by have := HN.out; omega
    clear hacc hal hk hr
    by_cases hlt : k < n
    · have hkl : k < l.length := by have := HN.out; omega
      have hlti : (k : Int) < (n : Int) := by omega
      obtain ⟨ad, rfl, _, hcell⟩ := (HV.out.below hbw).at hkl
      obtain ⟨x, hx⟩ : ∃ x, x = l[k] := ⟨_, rfl⟩
      have hcx : wr.cell? (ad.add k) = some (.int .i64 x) := by rw [hcell, hx]; rfl
      have hxb : inInt x := by rw [hx]; exact HL.out _ (List.getElem_mem hkl)
      have HX := Lib.hid hx
      have HD := Lib.hid (tdiff_any base x wr hbi hxb)
      obtain ⟨u, d, o, hg⟩ : ∃ u d o, gdiff base x = (u, d, o) := ⟨_, _, _, rfl⟩
      rw [hg] at HD
      have HP := Lib.hid (show pone base x = if o = true then some u else none by unfold pone; rw [hg])
      clear hcell hx hxb hg hbw
      go_wp2_with fail
      refine HD.out.mono ?_
      rintro e w2 ⟨rfl, hb2⟩
      have HB2 := Lib.hid (below_then HB.out hb2)
      cases o with
      | false =>
        have hE := Lib.hid (show omap (pone base) l = none from omap_none (x := x) (by rw [HX.out]; exact List.getElem_mem hkl) (by rw [HP.out]; rfl))
        clear hb2
        go_wp2
        go_ret2
        rw [hE.out]
        exact ⟨rfl, HB2.out⟩
      | true =>
        have hnext := Lib.hid (show omap (pone base) (l.take (k + 1)) = some (acc ++ [u]) from omap_take hkl HACC.out (by rw [← HX.out, HP.out]; rfl))
        have hr2 := HR.out.below hb2 HR.out.lt
        have hfx := hr2.free k
        have hcu : ∃ y, w2.cell? ⟨w.heap.size, k, none⟩ = some y := by
          rw [hr2.cell]
          exact ⟨_, List.getElem?_eq_getElem (by rw [List.length_append, List.length_map, List.length_replicate]; have := HAL.out; omega)⟩
        obtain ⟨u0, hcu⟩ := hcu
        have hset := hr2.set_ k (uv u)
        rw [fill_step hlt HAL.out] at hset
        have HSET := Lib.hid hset
        have HB3 := Lib.hid (HB2.out.setCell (p := ⟨w.heap.size, k, none⟩) (Nat.le_refl _) (uv u))
        clear hset hr2 hb2
        go_wp2
        go_roundw
        case rel => exact ⟨k + 1, _, hkl, by go_num, hnext.out, by rw [HN.out]; exact HSET.out, HB3.out⟩
        case measure => simp [intOf]; omega
    · obtain rfl : k = n := by omega
      have hlti : ¬ (k : Int) < (k : Int) := by omega
      have hE : Hid (omap (pone base) l = some acc) := Lib.hid (by
        have h1 := HACC.out
        rwa [List.take_of_length_le (by have := HN.out; omega)] at h1)
      have hr := HR.out
      rw [Nat.sub_self, List.replicate_zero, List.append_nil] at hr
      have HRR := Lib.hid hr
      clear hr hbw
      go_wp2
      go_ret2
      rw [hE.out]
      exact ⟨w.heap.size, by rw [HAL.out]; rfl, Nat.le_refl _, HRR.out, HB.out⟩
end Go.Proofs.YtblpkmmhmdpkjaaGreatDoor

/- patched's own contracts: cut, with its closure add. -/



namespace Go.Proofs.YtblpkmmhmdpkjaaGreatDoor

open Go.RowKit

/-- Two rows of numbers of the call's own, that grow turn about. -/
structure Two (w : World) (B : Nat) (u v : Value) (n m : Nat) (xs ys : List Value) : Prop where
  h1 : w.ownsRow B 101 1 u n xs
  h2 : w.ownsRow B 101 1 v m ys
  d : ∀ a, u.ownBlock = some a → v.ownBlock = some a → False
theorem Two.turn {w : World} {B n m : Nat} {u v : Value} {xs ys : List Value} (h : Two w B u v n m xs ys) : Two w B v u m n ys xs := ⟨h.h2, h.h1, fun a p q => h.d a q p⟩
theorem Two.below {w w' : World} {B n m : Nat} {u v : Value} {xs ys : List Value} (h : Two w B u v n m xs ys) (hb : Below w.heap.size w w') : Two w' B u v n m xs ys := ⟨own_below h.h1 hb, own_below h.h2 hb, h.d⟩
theorem Two.past {w w' : World} {B n m g : Nat} {u v : Value} {xs ys : List Value} (h : Two w B u v n m xs ys) (hg : w.grownBy w' (some g)) (hlt : g < B) : Two w' B u v n m xs ys := ⟨own_past h.h1 hg hlt, own_past h.h2 hg hlt, h.d⟩
theorem own_lt {w : World} {B n a : Nat} {e : TypeId} {v : Value} {xs : List Value} (h : w.ownsRow B e 1 v n xs) (ha : v.ownBlock = some a) : a < w.heap.size := by
  rcases h.2 with ⟨h1, _⟩ | ⟨g, c, cur, h1, _, h3, _⟩
  · rw [h1] at ha; cases ha
  · rw [h1] at ha; injection ha with ha; subst ha; exact (Array.getElem?_eq_some_iff.1 h3).1
theorem Two.push {w w' : World} {B n n' m k : Nat} {u v u' : Value} {xs xs' ys : List Value} (h : Two w B u v n m xs ys) (ho : w'.ownsRow B 101 1 u' n' xs') (hg : w.grownBy w' u.ownBlock) (hq : u'.ownBlock = u.ownBlock ∨ u'.ownBlock = some k) (hk : w.heap.size ≤ k) : Two w' B u' v n' m xs' ys := by
  refine ⟨ho, h.h2.kept hg ?_, ?_⟩
  · cases hv : v.ownBlock with
    | none => exact .inl rfl
    | some a => exact .inr fun he => h.d a he.symm hv
  · intro a h1 h2
    rcases hq with hq | hq
    · exact h.d a (hq ▸ h1) h2
    · rw [hq] at h1
      injection h1 with h1
      have := own_lt h.h2 h2
      omega
theorem Two.nil (w : World) (B : Nat) : Two w B (.slice none 0 0) (.slice none 0 0) 0 0 [] [] := ⟨World.ownsRow_nil _ _ _ _, World.ownsRow_nil _ _ _ _, fun a h => by cases h⟩
def AddPost (m B b a : Nat) (n A gap patch : Nat) (xs ys : List Nat) (w : World) (e : Ending) (w' : World) : Prop :=
  ∃ u v, e = .returned (.tuple #[]) ∧ Row w' b 209 [u, v] ∧ Row w' a 3 [.int .i64 ((A + gap : Nat) : Int)] ∧ Two w' B u v (n + 1) (n + 1) ((xs ++ [gap]).map uv) ((ys ++ [patch]).map uv) ∧ Below m w w'
set_option maxHeartbeats 2000000 in
set_option maxRecDepth 100000 in
theorem add_any (m B b a n A gap patch : Nat) (u v : Value) (xs ys : List Nat) (w : World) (hrb : Row w b 209 [u, v]) (hra : Row w a 3 [.int .i64 (A : Int)]) (hmb : m ≤ b) (hma : m ≤ a) (hbB : b < B) (haB : a < B) (hab : a ≠ b) (hB : B ≤ w.heap.size)
    (h2 : Two w B u v n n (xs.map uv) (ys.map uv)) (hn : n ≤ 1000000) (hA : A ≤ 1000000) (hgap : gap ≤ 1000000) :
    Calls Tryz.prog 208 #[.int .i64 (gap : Int), .int .u64 (patch : Int), .pointer (some ⟨b, 0, none⟩), .pointer (some ⟨a, 0, none⟩)] w (AddPost m B b a n A gap patch xs ys w) := by
  have hgw : IntKind.u64.wrap (gap : Int) = (gap : Int) := by rw [IntKind.wrap_u64]; omega
  have hc0 : w.cell? ⟨b, 0, none⟩ = some u := hrb.cell 0
  have H2 := Lib.hid h2
  have HRB := Lib.hid hrb
  have HRA := Lib.hid hra
  clear hrb hra h2
  go_enter Tryz.func208, Tryz.ntmps208
  go_wp2_with (at_builtin; refine wpList_push elemU rfl _ _ rfl B u n (xs.map uv) (uv gap) w w rfl rfl rfl rfl H2.out.h1 (Below.refl _ _) hB (by omega) (by omega) ?_)
  intro u1 w1 ho1 hb1 hg1 hq1
  obtain ⟨A1, c1, hu1, _⟩ := own_shape ho1
  subst hu1
  have hz1 := hb1.size
  have HT1 := Lib.hid (H2.out.push ho1 hg1 hq1 (Nat.le_succ _))
  have hrb1 := HRB.out.below hb1 hbB
  have hra1 := HRA.out.below hb1 haB
  have hcb : w1.cell? ⟨b, 0, none⟩ = some u := hrb1.cell 0
  have hfb := hrb1.free 0
  have hset := hrb1.set_ 0 (.slice A1 (n + 1) c1)
  rw [show [u, v].set 0 (.slice A1 (n + 1) c1) = [.slice A1 (n + 1) c1, v] from rfl] at hset
  have HRB2 := Lib.hid hset
  have HRA2 := Lib.hid (hra1.far (p := ⟨b, 0, none⟩) hab (.slice A1 (n + 1) c1))
  have HS2 := Lib.hid (HT1.out.past (grown_set w1 b 0 (.slice A1 (n + 1) c1)) hbB).turn
  have hc1 : (w1.setCell ⟨b, 0, none⟩ (.slice A1 (n + 1) c1)).cell? ⟨b, 1, none⟩ = some v := hset.cell 1
  have HZS := Lib.hid (show Value.slice (some ⟨w1.heap.size, 0, none⟩) 1 1 = .slice (some ⟨(w1.setCell ⟨b, 0, none⟩ (.slice A1 (n + 1) c1)).heap.size, 0, none⟩) 1 1 by simp)
  have HBM := Lib.hid ((hb1.mono (Nat.le_of_lt (Nat.lt_of_le_of_lt hmb hbB))).setCell (p := ⟨b, 0, none⟩) hmb (.slice A1 (n + 1) c1))
  clear ho1 hg1 hq1 hrb1 hra1 hset hb1 hc0
  go_wp2_with (at_builtin; go_must (refine wpList_push elemU rfl _ _ rfl B v n (ys.map uv) (uv patch) (w1.setCell ⟨b, 0, none⟩ (.slice A1 (n + 1) c1)) (w1.setCell ⟨b, 0, none⟩ (.slice A1 (n + 1) c1)) rfl HZS.out rfl rfl HS2.out.h1 (Below.refl _ _) (Nat.le_trans hB (by simpa using hz1)) (by omega) (by omega) ?_))
  intro v2 w2 ho2 hb2 hg2 hq2
  obtain ⟨A2, c2, hv2, _⟩ := own_shape ho2
  subst hv2
  have HT2 := Lib.hid (HS2.out.push ho2 hg2 hq2 (by simp)).turn
  have hrb2 := HRB2.out.below hb2 hbB
  have hra2 := HRA2.out.below hb2 haB
  have hcb2 : w2.cell? ⟨b, 1, none⟩ = some v := hrb2.cell 1
  have hfb2 := hrb2.free 1
  have hset2 := hrb2.set_ 1 (.slice A2 (n + 1) c2)
  rw [show [Value.slice A1 (n + 1) c1, v].set 1 (.slice A2 (n + 1) c2) = [Value.slice A1 (n + 1) c1, .slice A2 (n + 1) c2] from rfl] at hset2
  have hra3 := hra2.far (p := ⟨b, 1, none⟩) hab (.slice A2 (n + 1) c2)
  have hca : (w2.setCell ⟨b, 1, none⟩ (.slice A2 (n + 1) c2)).cell? ⟨a, 0, none⟩ = some (.int .i64 (A : Int)) := hra3.cell 0
  have hfa := hra3.free 0
  obtain ⟨C, hC⟩ : ∃ C, C = A + gap := ⟨_, rfl⟩
  have hCi : (A : Int) + (gap : Int) = (C : Int) := by omega
  have hCw : IntKind.i64.wrap (C : Int) = (C : Int) := by rw [IntKind.wrap_i64]; omega
  have hset3 := hra3.set_ 0 (.int .i64 (C : Int))
  rw [show [Value.int .i64 (A : Int)].set 0 (.int .i64 (C : Int)) = [.int .i64 (C : Int)] from rfl] at hset3
  have HRA3 := Lib.hid hset3
  have HRB3 := Lib.hid (hset2.far (p := ⟨a, 0, none⟩) (Ne.symm hab) (.int .i64 (C : Int)))
  have HT3 := Lib.hid ((HT2.out.past (grown_set w2 b 1 (.slice A2 (n + 1) c2)) hbB).past (grown_set (w2.setCell ⟨b, 1, none⟩ (.slice A2 (n + 1) c2)) a 0 (.int .i64 (C : Int))) haB)
  have HBF := Lib.hid ((((HBM.out.trans (hb2.mono (Nat.le_of_lt (Nat.lt_of_le_of_lt hmb hbB)))).setCell (p := ⟨b, 1, none⟩) hmb (.slice A2 (n + 1) c2))).setCell (p := ⟨a, 0, none⟩) hma (.int .i64 (C : Int)))
  have HC := Lib.hid hC
  clear ho2 hg2 hq2 hrb2 hra2 hset2 hra3 hset3 hb2 hC hcb hfb hc1
  go_wp2
  go_end0
  refine ⟨(.slice A1 (n + 1) c1), (.slice A2 (n + 1) c2), rfl, HRB3.out, by rw [← HC.out]; exact HRA3.out, ?_, HBF.out⟩
  rw [List.map_append, List.map_append]
  exact HT3.out
theorem ret_struct {P : Program} {f : Func} {p : Tmp} {t t' : TypeId} {K : Ending → World → Prop} {a : Act} {w : World} {g : Nat} {cs : List Value} {d : TypeDesc} (hf : f.results = #[.cell p t]) (hp : a.tmps.getD p undef = .pointer (some ⟨g, 0, none⟩)) (hr : Row w g t' cs)
    (hu : P.underlying t = some d) (hdd : (match d with | .struct _ | .array _ _ => true | _ => false) = true) (hi : (P.info? t).map (·.size) = some cs.length) (hd : a.defers = []) (hK : K (.returned (.agg cs.toArray)) w) : bodyPost P f K .ret a w :=
  bodyPost_ret (v := .agg cs.toArray) (results_cell_row hf a.tmps w g t' cs.toArray (0, 0) _ hp hr hu hdd (by rw [hi]; simp)) hd hK
def prow (us : List Nat) (w k : Nat) : List Nat := plow (us.take k) w ++ us.drop k
theorem prow_len (us : List Nat) (w k : Nat) : (prow us w k).length = us.length := by
  unfold prow plow
  rw [List.length_append, List.length_map, ← List.length_append, List.take_append_drop]
theorem prow_at {us : List Nat} {w k : Nat} (hk : k < us.length) : (prow us w k)[k]? = some us[k] := by
  unfold prow plow
  rw [List.getElem?_append_right (by rw [List.length_map, List.length_take]; omega), List.length_map, List.length_take, show k - min k us.length = 0 by omega, List.getElem?_drop, Nat.add_zero, List.getElem?_eq_getElem hk]
theorem prow_set {us : List Nat} {w k : Nat} (hk : k < us.length) : (prow us w k).set k (us[k] % 2 ^ w) = prow us w (k + 1) := by
  unfold prow plow
  have hl : ((us.take k).map (· % 2 ^ w)).length = k := by rw [List.length_map, List.length_take]; omega
  rw [List.set_append_right _ _ (by omega), hl, Nat.sub_self, List.drop_eq_getElem_cons hk, List.set_cons_zero, List.take_succ_eq_append_getElem hk, List.map_append, List.append_assoc]
  rfl
theorem prow_same {us : List Nat} {w k : Nat} (hk : k < us.length) (h : us[k] / 2 ^ w = 0) : prow us w (k + 1) = prow us w k := by
  rw [← prow_set hk]
  have h1 : us[k] % 2 ^ w = us[k] := by have := Nat.div_add_mod us[k] (2 ^ w); rw [h] at this; omega
  rw [h1]
  refine List.ext_getElem? fun i => ?_
  rw [List.getElem?_set]
  split
  · rename_i e
    subst e
    rw [prow_at hk, if_pos (by rw [prow_len]; exact hk)]
  · rfl
theorem prow_zero (us : List Nat) (w : Nat) : prow us w 0 = us := by simp [prow, plow]
theorem prow_all (us : List Nat) (w : Nat) : prow us w us.length = plow us w := by simp [prow]
/-- Where the next gap counts from: what stands in a box. -/
def boxNat (a : Nat) (W : World) : Nat := match W.cell? ⟨a, 0, none⟩ with | some v => (intOf v).toNat | none => 0
theorem boxNat_row {a A : Nat} {W : World} {t : TypeId} (h : Row W a t [.int .i64 (A : Int)]) : boxNat a W = A := by
  unfold boxNat
  have h1 : W.cell? ⟨a, 0, none⟩ = some (.int .i64 (A : Int)) := h.cell 0
  rw [h1]
  simp [intOf]
/-- What is known in a round: the numbers' row at g, what is answered at r, the pairs at r + 1, the last place at r + 2. -/
structure Cutting (row : List Nat) (ps : List (Nat × Nat)) (last g r : Nat) (w wr : World) : Prop where
  ex : ∃ u v, Row wr (r + 1) 209 [u, v] ∧ Two wr (r + 3) u v ps.length ps.length ((ps.map (·.1)).map uv) ((ps.map (·.2)).map uv)
  box : Row wr (r + 2) 3 [.int .i64 (last : Int)]
  res : Row wr r 209 [.slice none 0 0, .slice none 0 0]
  row : Row wr g 101 (row.map uv)
  size : r + 3 ≤ wr.heap.size
  below : Below g w wr
theorem Cutting.add {row : List Nat} {ps : List (Nat × Nat)} {last g r : Nat} {w wr : World} (h : Cutting row ps last g r w wr) (hgr : g < r) (gap patch : Nat) (hn : ps.length ≤ 1000000) (hA : last ≤ 1000000) (hgap : gap ≤ 1000000) :
    Calls Tryz.prog 208 #[.int .i64 (gap : Int), .int .u64 (patch : Int), .pointer (some ⟨r + 1, 0, none⟩), .pointer (some ⟨r + 2, 0, none⟩)] wr fun e w' => e = .returned (.tuple #[]) ∧ Cutting row (ps ++ [(gap, patch)]) (last + gap) g r w w' := by
  obtain ⟨u, v, hrb, h2⟩ := h.ex
  refine (add_any (r + 1) (r + 3) (r + 1) (r + 2) ps.length last gap patch u v _ _ wr hrb h.box (Nat.le_refl _) (by omega) (by omega) (by omega) (by omega) h.size h2 hn hA hgap).mono ?_
  rintro e w' ⟨u', v', rfl, h3, h4, h5, h6⟩
  refine ⟨rfl, ⟨u', v', h3, ?_⟩, h4, h.res.below h6 (by omega), h.row.below h6 (by omega), Nat.le_trans h.size h6.size, h.below.trans (h6.mono (by omega))⟩
  rw [List.length_append, List.length_singleton]
  have h7 := h5
  rw [show ps.map (·.1) ++ [gap] = (ps ++ [(gap, patch)]).map (·.1) by simp, show ps.map (·.2) ++ [patch] = (ps ++ [(gap, patch)]).map (·.2) by simp] at h7
  exact h7
theorem Cutting.set {row : List Nat} {ps : List (Nat × Nat)} {last g r : Nat} {w wr : World} (h : Cutting row ps last g r w wr) (hgr : g < r) (k T : Nat) : Cutting (row.set k T) ps last g r w (wr.setCell ⟨g, k, none⟩ (.int .u64 (T : Int))) := by
  obtain ⟨u, v, hrb, h2⟩ := h.ex
  refine ⟨⟨u, v, hrb.far (p := ⟨g, k, none⟩) (by dsimp only; omega) _, h2.past (grown_set _ _ _ _) (by omega)⟩, h.box.far (p := ⟨g, k, none⟩) (by dsimp only; omega) _, h.res.far (p := ⟨g, k, none⟩) (by dsimp only; omega) _, ?_, by simpa using h.size, h.below.setCell (p := ⟨g, k, none⟩) (Nat.le_refl _) _⟩
  have h3 := h.row.set_ k (uv T)
  rw [← List.map_set] at h3
  exact h3
def PCutRel (us : List Nat) (W0 g r : Nat) (w : World) (i : Value) (wr : World) : Prop :=
  ∃ k : Nat, k ≤ us.length ∧ i = .int .i64 (k : Int) ∧ Cutting (prow us W0 k) (pst W0 us k).1 (pst W0 us k).2 g r w wr
def CutIn (row : List Nat) (ps : List (Nat × Nat)) (l0 J g r : Nat) (w : World) (_i : Value) (wr : World) : Prop :=
  ∃ i : Nat, i ≤ J ∧ Cutting row (ps ++ List.replicate i (255, 0)) (l0 + 255 * i) g r w wr
def pairsV (u v : Value) : Value := .agg #[u, v]
def CutPost (us : List Nat) (W0 g : Nat) (w : World) (e : Ending) (w' : World) : Prop :=
  ∃ u v, e = .returned (pairsV u v) ∧ IsV uv ((ppairs W0 us).map (·.1)) u w' ∧ IsV uv ((ppairs W0 us).map (·.2)) v w' ∧ Row w' g 101 ((plow us W0).map uv) ∧ Below g w w'
theorem pairs_size : (Tryz.prog.info? 209).map (·.size) = some 2 := by kernel_rfl
set_option maxHeartbeats 4000000 in
set_option maxRecDepth 100000 in
theorem cut_any (us : List Nat) (W0 g n : Nat) (w : World) (hr : Row w g 101 (us.map uv)) (hn : us.length = n) (h64 : ∀ u ∈ us, u < 2 ^ 64) (hb : n ≤ 10000) (hw : W0 ≤ 64) :
    Calls Tryz.prog 189 #[.slice (some ⟨g, 0, none⟩) n n, .int .i64 (W0 : Int)] w (CutPost us W0 g w) := by
  have hgr := hr.lt
  obtain ⟨r, hrz⟩ : ∃ r, r = w.heap.size := ⟨_, rfl⟩
  rw [← hrz] at hgr
  have HN := Lib.hid hn
  have H64 := Lib.hid h64
  obtain ⟨w1, hw1⟩ : ∃ w1, w1 = w.alloc (.cells #[.slice none 0 0, .slice none 0 0] 209) := ⟨_, rfl⟩
  have z1 : w1.heap.size = r + 1 := by rw [hw1, hrz]; simp
  obtain ⟨w2, hw2⟩ : ∃ w2, w2 = w1.alloc (.cells #[.slice none 0 0, .slice none 0 0] 209) := ⟨_, rfl⟩
  have z2 : w2.heap.size = r + 2 := by rw [hw2]; simp [z1]
  obtain ⟨w3, hw3⟩ : ∃ w3, w3 = w2.alloc (.cells #[.int .i64 0] 3) := ⟨_, rfl⟩
  have z3 : w3.heap.size = r + 3 := by rw [hw3]; simp [z2]
  have b1 : Below g w w1 := by rw [hw1]; exact (Below.refl _ _).alloc (by omega) _
  have b2 : Below g w w2 := by rw [hw2]; exact b1.alloc (by omega) _
  have b3 : Below g w w3 := by rw [hw3]; exact b2.alloc (by omega) _
  have q1 : Row w1 r 209 [.slice none 0 0, .slice none 0 0] := by rw [hw1, hrz]; exact heap_alloc_new w _
  have q2 : Row w2 (r + 1) 209 [.slice none 0 0, .slice none 0 0] := by rw [hw2, ← z1]; exact heap_alloc_new w1 _
  have q3 : Row w3 (r + 2) 3 [.int .i64 0] := by rw [hw3, ← z2]; exact heap_alloc_new w2 _
  have HC := Lib.hid (show Cutting us [] 0 g r w w3 from by
    refine ⟨⟨.slice none 0 0, .slice none 0 0, ?_, Two.nil _ _⟩, q3, ?_, ?_, by omega, b3⟩
    · rw [hw3]; exact q2.alloc _
    · rw [hw3, hw2]; exact (q1.alloc _).alloc _
    · rw [hw3, hw2, hw1]; exact ((hr.alloc _).alloc _).alloc _)
  have HS := Lib.hid (show PCutRel us W0 g r w (.int .i64 0) w3 from ⟨0, Nat.zero_le _, rfl, by rw [prow_zero]; exact HC.out⟩)
  clear HC q1 q2 q3 b1 b2 b3 hr hn h64
  go_enter Tryz.func189, Tryz.ntmps189
  go_wp2
  rw [← hrz, ← hw1, ← hw2, ← hw3, show r + 1 + 1 = r + 2 from rfl]
  have HZ := Lib.hid hrz
  clear hw1 hw2 hw3 z1 z2 z3 hrz
  go_loopw [14] (PCutRel us W0 g r w) (fun i _ => n - (intOf i).toNat)
  case atStart => exact HS.out
  case round =>
    obtain ⟨k, hk, rfl, hC⟩ := hrel
    have HC := Lib.hid hC
    have hkn : k ≤ n := by have := HN.out; omega
    by_cases hlt : k < n
    · have hkl : k < us.length := by have := HN.out; omega
      have hlti : (k : Int) < (n : Int) := by omega
      obtain ⟨u, hu⟩ : ∃ u, u = us[k] := ⟨_, rfl⟩
      have hcu : wr.cell? ⟨g, k, none⟩ = some (.int .u64 (u : Int)) := by rw [hC.row.cell, List.getElem?_map, prow_at hkl, ← hu]; rfl
      have hgd : us.getD k 0 = u := by rw [List.getD_eq_getElem?_getD, List.getElem?_eq_getElem hkl, hu]; rfl
      have hu64 : u < 18446744073709551616 := by rw [hu]; exact H64.out _ (List.getElem_mem hkl)
      obtain ⟨q, hq⟩ : ∃ q, q = u / 2 ^ W0 := ⟨_, rfl⟩
      have hsh : (u : Int) / 2 ^ W0 = (q : Int) := by rw [hq]; simp
      have hlast := pst_last W0 us k
      have hpl := pst_len W0 us k
      have HNX := Lib.hid (prow_set (w := W0) hkl)
      rw [← hu] at HNX
      obtain ⟨last, hla⟩ : ∃ last, last = (pst W0 us k).2 := ⟨_, rfl⟩
      obtain ⟨ps, hps⟩ : ∃ ps, ps = (pst W0 us k).1 := ⟨_, rfl⟩
      rw [← hla] at hlast hpl HC
      rw [← hps] at HC hpl
      have hplb : ps.length ≤ 20000 := by omega
      have hca : wr.cell? ⟨r + 2, 0, none⟩ = some (.int .i64 (last : Int)) := HC.out.box.cell 0
      have HLA := Lib.hid hla
      have HPS := Lib.hid hps
      have HGD := Lib.hid hgd
      have HQ := Lib.hid hq
      have HU := Lib.hid hu
      clear hu hgd hq hla hps hpl hC HS
      by_cases hq0 : q = 0
      · have HSK : Hid (pst W0 us (k + 1) = pst W0 us k) := Lib.hid (pst_skip (by rw [HGD.out, ← HQ.out, hq0]))
        have HSR : Hid (prow us W0 (k + 1) = prow us W0 k) := Lib.hid (prow_same hkl (by rw [← HU.out, ← HQ.out, hq0]))
        have hsz : (u : Int) / 2 ^ W0 = 0 := by rw [hsh, hq0]; rfl
        clear hsh hq0
        go_wp2
        go_roundw
        case rel => exact ⟨k + 1, hkl, by go_num, by rw [HSK.out, HSR.out, ← HLA.out, ← HPS.out]; exact HC.out⟩
        case measure => simp [intOf]; omega
      · obtain ⟨j, hj⟩ : ∃ j, j = (k - last - 1) / 255 := ⟨_, rfl⟩
        have HMO : Hid (pst W0 us (k + 1) = (ps ++ (List.replicate j (255, 0) ++ [(k - last - 255 * j, q)]), k)) := Lib.hid (by rw [pst_more (by rw [HGD.out, ← HQ.out]; exact hq0), ← HLA.out, ← HPS.out, ← hj, HGD.out, ← HQ.out])
        have hq1 : ((q : Int) == 0) = false := by rw [beq_eq_false_iff_ne]; omega
        obtain ⟨row, hrow⟩ : ∃ row, row = prow us W0 k := ⟨_, rfl⟩
        have HRK := Lib.hid (show row[k]? = some u by rw [hrow, prow_at hkl, HU.out])
        rw [← hrow] at HC HNX
        have HST := Lib.hid (show CutIn row ps last j g r w undef wr from ⟨0, Nat.zero_le _, by simpa using HC.out⟩)
        have HJ := Lib.hid hj
        have hjb : j ≤ 10000 := by omega
        clear hj hq0 hrow
        go_wp2
        clear hcu hca
        go_loopw [24] (CutIn row ps last j g r w) (fun _ W => k - boxNat (r + 2) W)
        case atStart => exact HST.out
        case round =>
          obtain ⟨i, hi, hC⟩ := hrel
          have HC2 := Lib.hid hC
          obtain ⟨L, hL⟩ : ∃ L, L = last + 255 * i := ⟨_, rfl⟩
          rw [← hL] at HC2
          have hca : wr.cell? ⟨r + 2, 0, none⟩ = some (.int .i64 (L : Int)) := HC2.out.box.cell 0
          have HBX := Lib.hid (boxNat_row HC2.out.box)
          obtain ⟨d, hd⟩ : ∃ d, d = k - L := ⟨_, rfl⟩
          have hLk : L ≤ k := by have := HJ.out; omega
          have hdi : (k : Int) - (L : Int) = (d : Int) := by omega
          have hdw : IntKind.i64.wrap (d : Int) = (d : Int) := by rw [IntKind.wrap_i64]; omega
          have hlen : (ps ++ List.replicate i (255, 0)).length ≤ 1000000 := by rw [List.length_append, List.length_replicate]; omega
          have HL := Lib.hid hL
          have HD := Lib.hid hd
          clear hL hd hC HST
          by_cases hij : i < j
          · have hd5 : (255 : Int) < (d : Int) := by have := HJ.out; have := HL.out; have := HD.out; omega
            have HA := Lib.hid (HC2.out.add hgr 255 0 hlen (by omega) (by omega))
            clear hlen
            go_wp2_with (go_at_call 208; refine HA.out.mono ?_; rintro e w4 ⟨rfl, hC4⟩)
            have HC4 := Lib.hid hC4
            clear hC4
            go_roundw
            case rel => exact ⟨i + 1, hij, by rw [List.replicate_succ', ← List.append_assoc, show last + 255 * (i + 1) = L + 255 by have := HL.out; omega]; exact HC4.out⟩
            case measure => rw [boxNat_row HC4.out.box, HBX.out]; omega
          · obtain rfl : i = j := by omega
            have hd5 : ¬ (255 : Int) < (d : Int) := by have := HJ.out; have := HL.out; have := HD.out; omega
            have HA := Lib.hid (HC2.out.add hgr d q hlen (by omega) (by omega))
            have HLD : Hid (L + d = k ∧ d = k - last - 255 * i) := Lib.hid (by have := HL.out; have := HD.out; omega)
            clear hlen
            go_wp2_with (go_at_call 208; refine HA.out.mono ?_; rintro e w4 ⟨rfl, hC4⟩)
            have HC4 := Lib.hid hC4
            rw [List.append_assoc, HLD.out.1, HLD.out.2] at HC4
            clear hC4
            obtain ⟨T, hT⟩ : ∃ T, T = u % 2 ^ W0 := ⟨_, rfl⟩
            rw [← hT] at HNX
            obtain ⟨M, hM⟩ : ∃ M, M = 2 ^ W0 - 1 := ⟨_, rfl⟩
            have hMb : M < 18446744073709551616 := by
              have h1 : 2 ^ W0 ≤ 2 ^ 64 := Nat.pow_le_pow_right (by omega) hw
              have h2 := Nat.two_pow_pos W0
              omega
            have hand : bits .and .u64 (u : Int) (M : Int) = (T : Int) := by rw [u64_and_nat _ _ hu64 hMb, hM, Nat.and_two_pow_sub_one_eq_mod, hT]
            have HLW := Lib.hid (fun W => plow_any W0 M W hw hM)
            have hcu : w4.cell? ⟨g, k, none⟩ = some (.int .u64 (u : Int)) := by rw [HC4.out.row.cell, List.getElem?_map, HRK.out]; rfl
            have hfu := HC4.out.row.free k
            have HC5 := Lib.hid (HC4.out.set hgr k T)
            rw [HNX.out] at HC5
            have HREL := Lib.hid (show PCutRel us W0 g r w (.int .i64 ((k : Int) + 1)) (w4.setCell ⟨g, k, none⟩ (.int .u64 (T : Int))) from ⟨k + 1, hkl, by go_num, by rw [HMO.out]; exact HC5.out⟩)
            clear hT hM hMb
            go_wp2_with (go_at_call 197; refine (HLW.out _).mono ?_; rintro e w5 ⟨rfl, rfl⟩)
            go_roundw
            case rel => exact HREL.out
            case measure => simp [intOf]; omega
    · obtain rfl : k = n := by omega
      have hlti : ¬ (k : Int) < (k : Int) := by omega
      have HE : Hid ((pst W0 us k).1 = ppairs W0 us ∧ prow us W0 k = plow us W0) := Lib.hid ⟨by unfold ppairs; rw [HN.out], by rw [← HN.out]; exact prow_all _ _⟩
      rw [HE.out.1, HE.out.2] at HC
      obtain ⟨u, v, hrb, h2⟩ := HC.out.ex
      have hc0 : wr.cell? ⟨r + 1, 0, none⟩ = some u := hrb.cell 0
      have hc1 : wr.cell? ⟨r + 1, 1, none⟩ = some v := hrb.cell 1
      have H2 := Lib.hid h2
      obtain ⟨A1, c1, hu, _⟩ := own_shape h2.h1
      obtain ⟨A2, c2, hv, _⟩ := own_shape h2.h2
      generalize hm : (ppairs W0 us).length = m at hu hv H2
      subst hu hv
      clear hC hrb h2 hm
      have hr0 : wr.cell? ⟨r, 0, none⟩ = some (.slice none 0 0) := HC.out.res.cell 0
      have hf0 := HC.out.res.free 0
      have hs1 := HC.out.res.set_ 0 (.slice A1 m c1)
      have hr1 : (wr.setCell ⟨r, 0, none⟩ (.slice A1 m c1)).cell? ⟨r, 1, none⟩ = some (.slice none 0 0) := hs1.cell 1
      have hf1 := hs1.free 1
      have hs2 := hs1.set_ 1 (.slice A2 m c2)
      rw [show (([Value.slice none 0 0, .slice none 0 0].set 0 (.slice A1 m c1)).set 1 (.slice A2 m c2)) = [.slice A1 m c1, .slice A2 m c2] from rfl] at hs2
      obtain ⟨W, hW⟩ : ∃ W, W = (wr.setCell ⟨r, 0, none⟩ (.slice A1 m c1)).setCell ⟨r, 1, none⟩ (.slice A2 m c2) := ⟨_, rfl⟩
      rw [← hW] at hs2
      have HS2 := Lib.hid hs2
      have h3 : Two W (r + 3) (.slice A1 m c1) (.slice A2 m c2) m m (((ppairs W0 us).map (·.1)).map uv) (((ppairs W0 us).map (·.2)).map uv) := by rw [hW]; exact (H2.out.past (grown_set _ r 0 _) (by omega)).past (grown_set _ r 1 _) (by omega)
      have HU := Lib.hid (isV_own h3.h1)
      have HV := Lib.hid (isV_own h3.h2)
      have HG := Lib.hid (show Row W g 101 ((plow us W0).map uv) by rw [hW]; exact (HC.out.row.far (p := ⟨r, 0, none⟩) (by dsimp only; omega) _).far (p := ⟨r, 1, none⟩) (by dsimp only; omega) _)
      have HBW := Lib.hid (show Below g w W by rw [hW]; exact (HC.out.below.setCell (p := ⟨r, 0, none⟩) (Nat.le_of_lt hgr) _).setCell (p := ⟨r, 1, none⟩) (Nat.le_of_lt hgr) _)
      have HW := Lib.hid hW
      clear hs1 hs2 h3 hW
      go_wp2
      rw [← HW.out]
      refine ret_struct rfl rfl HS2.out Tryz.underlying209 rfl pairs_size rfl ?_
      exact ⟨_, _, rfl, HU.out, HV.out, HG.out, HBW.out⟩
end Go.Proofs.YtblpkmmhmdpkjaaGreatDoor

/- patched's own contracts: patcher with its closure, and patch. Written by gen_play.py. -/





namespace Go.Proofs.YtblpkmmhmdpkjaaGreatDoor

open Go.RowKit

/-- The boxes of the closure, and the numbers that it lays patches upon. -/
structure Laying (w00 : World) (g m base W : Nat) (lv : Value) (pb sb wb xb : Nat) (cs : List Value) (A : Nat) (low : List Nat) (w : World) : Prop where
  shp : Row w xb 181 cs
  pos : Row w pb 3 [.int .i64 (A : Int)]
  siz : Row w sb 75 [lv]
  wid : Row w wb 3 [.int .i64 (W : Int)]
  own : w.ownsRow base 101 1 lv m (low.map uv)
  grown : w00.grownBy w (some g)
theorem shape_at0 (W : World) (g : Nat) : (Instr.fieldAt 181 (.pointer (some ⟨g, 0, none⟩)) 0).run Tryz.prog W = .ok (.pointer (some ⟨g, 0, none⟩)) W := by
  simp [Instr.fieldAt, run_underlying Tryz.underlying181, Instr.sureAddr, fieldPlace, Addr.add]
theorem shape_at1 (W : World) (g : Nat) : (Instr.fieldAt 181 (.pointer (some ⟨g, 0, none⟩)) 1).run Tryz.prog W = .ok (.pointer (some ⟨g, 1, none⟩)) W := by
  simp [Instr.fieldAt, run_underlying Tryz.underlying181, Instr.sureAddr, fieldPlace, Addr.add]
theorem shape_at2 (W : World) (g : Nat) : (Instr.fieldAt 181 (.pointer (some ⟨g, 0, none⟩)) 2).run Tryz.prog W = .ok (.pointer (some ⟨g, 2, none⟩)) W := by
  simp [Instr.fieldAt, run_underlying Tryz.underlying181, Instr.sureAddr, fieldPlace, Addr.add]
theorem shape_at3 (W : World) (g : Nat) : (Instr.fieldAt 181 (.pointer (some ⟨g, 0, none⟩)) 3).run Tryz.prog W = .ok (.pointer (some ⟨g, 3, none⟩)) W := by
  simp [Instr.fieldAt, run_underlying Tryz.underlying181, Instr.sureAddr, fieldPlace, Addr.add]
theorem shape_at4 (W : World) (g : Nat) : (Instr.fieldAt 181 (.pointer (some ⟨g, 0, none⟩)) 4).run Tryz.prog W = .ok (.pointer (some ⟨g, 4, none⟩)) W := by
  simp [Instr.fieldAt, run_underlying Tryz.underlying181, Instr.sureAddr, fieldPlace, Addr.add]
theorem shape_at5 (W : World) (g : Nat) : (Instr.fieldAt 181 (.pointer (some ⟨g, 0, none⟩)) 5).run Tryz.prog W = .ok (.pointer (some ⟨g, 5, none⟩)) W := by
  simp [Instr.fieldAt, run_underlying Tryz.underlying181, Instr.sureAddr, fieldPlace, Addr.add]
theorem Laying.below {w00 w w' : World} {g m base W : Nat} {lv : Value} {pb sb wb xb : Nat} {cs : List Value} {A : Nat} {low : List Nat} (h : Laying w00 g m base W lv pb sb wb xb cs A low w) (hb : Below w.heap.size w w') : Laying w00 g m base W lv pb sb wb xb cs A low w' :=
  ⟨h.shp.below hb h.shp.lt, h.pos.below hb h.pos.lt, h.siz.below hb h.siz.lt, h.wid.below hb h.wid.lt, own_below h.own hb, grown_trans h.grown (grown_below hb)⟩
end Go.Proofs.YtblpkmmhmdpkjaaGreatDoor
