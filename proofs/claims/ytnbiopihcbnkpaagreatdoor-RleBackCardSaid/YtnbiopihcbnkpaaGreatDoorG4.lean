/- Texts that the claims of this seat share, part 4: PRPut URun EOwn Apart Mask DOwn DIs TOwn PLow PFill PBase. -/
import Derived.Laws.Tables
import Derived.Shelf.Bits.Mul64
import Derived.Laws.StructEq
import Derived.Test.YtnbiopihcbnkpaaGreatDoorG3
/- The contract of layer 10's reference's Put. -/





namespace Go.Proofs.YtnbiopihcbnkpaaGreatDoor

open Go.RowKit

theorem pputE_no {l : List Int} {W : Int} {s : Bool} (h : dplain l s = none ∨ l.length < 1 ∨ 512 < l.length ∨ wcode W < 0 ∨ 64 ≤ W) : pputE l W s = ([], 1) := by unfold pputE; rw [if_pos h]
theorem pputE_ups {l : List Int} {W : Int} {s : Bool} (h : pups l = none) : pputE l W s = ([], 1) := by unfold pputE; split <;> simp [h]
theorem pputE_some {l : List Int} {W : Nat} {s : Bool} {us : List Nat} (h0 : dplain l s ≠ none) (h1 : 1 ≤ l.length) (h2 : l.length ≤ 512) (h3 : 0 ≤ wcode (W : Int)) (h4 : W < 64) (h : pups l = some us) :
    pputE l W s = if pbase l = -9223372036854775808 ∨ 31 < (ppairs W us).length ∨ 64 < pgw (ppairs W us) + ppw (ppairs W us) ∨ 64 < W + ppw (ppairs W us) then ([], 1) else (play (pbase l) us W, 0) := by
  unfold pputE
  rw [if_neg (by rintro (h | h | h | h | h) <;> first | exact h0 h | omega), h, Int.toNat_natCast]
theorem wcode_range {W : Int} (h : 0 ≤ wcode W) : 1 ≤ W ∧ W ≤ 64 := by
  obtain ⟨h1, h2⟩ := wcode_back h
  obtain ⟨c, hc⟩ := Int.eq_ofNat_of_zero_le h
  rw [hc] at h1 h2
  have h3 := wback ⟨c, by omega⟩
  dsimp only at h3
  have h4 := wof_bd (c : Int)
  rw [h1] at h3 h4
  omega
def PRowRel (L : List Nat) (w : World) (v i : Value) (wr : World) : Prop := ∃ k : Nat, k ≤ L.length ∧ i = .int .i64 (k : Int) ∧ wr.ownsRow w.heap.size 53 1 v k ((L.take k).map uv) ∧ Below w.heap.size w wr
def GRel (ps : List (Nat × Nat)) (w : World) (g i : Value) (wr : World) : Prop := ∃ k : Nat, k ≤ ps.length ∧ i = .int .i64 (k : Int) ∧ g = .int .i64 ((max 1 (wmost ((ps.map (·.1)).take k)) : Nat) : Int) ∧ wr = w
set_option maxHeartbeats 8000000 in
set_option maxRecDepth 100000 in
theorem rput10_any (l : List Int) (v : Value) (Wi : Int) (s : Bool) (w : World) (hv : IsV iv l v w) (hl : ∀ x ∈ l, inInt x) (hb : l.length ≤ 1000000) :
    Calls Tryz.prog 27 #[v, .int .i64 Wi, .bool s] w (RetE w (pputE l Wi s)) := by
  have HP := Lib.hid (rplain8_any l v s w hv hl hb)
  have HVV := Lib.hid hv
  obtain ⟨A, n, c, rfl⟩ := hv.shape
  have hn := hv.parts.1
  have HN := Lib.hid hn
  have HL := Lib.hid hl
  clear hv
  cases hd : dplain l s with
  | none =>
    have hE := Lib.hid (pputE_no (W := Wi) (.inl hd))
    have hpe : dplainE l s = ([], 1) := by unfold dplainE; rw [hd]
    rw [hpe] at HP
    clear hn hd hpe hl hb
    go_enter Tryz.func27, Tryz.ntmps27
    go_wp2_with fail
    refine HP.out.mono ?_
    rintro e w1 ⟨u, rfl, hu, hb1⟩
    obtain ⟨A1, c1, rfl, _⟩ := hu
    have HB := Lib.hid hb1
    have HV := Lib.hid (HVV.out.below hb1)
    clear hb1
    go_wp2_with (go_at_call 46; refine (rcode_any _ _).mono ?_; rintro e w' ⟨rfl, rfl⟩)
    go_ret2
    rw [hE.out]
    exact RetE.nil _ HB.out
  | some dl =>
    have hpe : dplainE l s = (dl, 0) := by unfold dplainE; rw [hd]
    rw [hpe] at HP
    by_cases h1 : n < 1
    · have hE := Lib.hid (pputE_no (l := l) (W := Wi) (s := s) (.inr (.inl (by omega))))
      have d1 : decide ((n : Int) < 1) = true := decide_eq_true (by omega)
      clear hn hd hpe hl hb
      go_enter Tryz.func27, Tryz.ntmps27
      go_wp2_with fail
      refine HP.out.mono ?_
      rintro e w1 ⟨u, rfl, hu, hb1⟩
      obtain ⟨A1, c1, rfl, _⟩ := hu
      have HB := Lib.hid hb1
      have HV := Lib.hid (HVV.out.below hb1)
      clear hb1
      go_wp2_with (go_at_call 46; refine (rcode_any _ _).mono ?_; rintro e w' ⟨rfl, rfl⟩)
      go_ret2
      rw [hE.out]
      exact RetE.nil _ HB.out
    · have d1 : decide ((n : Int) < 1) = false := decide_eq_false (by omega)
      by_cases h5 : 512 < n
      · have hE := Lib.hid (pputE_no (l := l) (W := Wi) (s := s) (.inr (.inr (.inl (by omega)))))
        have d2 : decide ((512 : Int) < (n : Int)) = true := decide_eq_true (by omega)
        clear hn hd hpe hl hb
        go_enter Tryz.func27, Tryz.ntmps27
        go_wp2_with fail
        refine HP.out.mono ?_
        rintro e w1 ⟨u, rfl, hu, hb1⟩
        obtain ⟨A1, c1, rfl, _⟩ := hu
        have HB := Lib.hid hb1
        have HV := Lib.hid (HVV.out.below hb1)
        clear hb1
        go_wp2_with (go_at_call 46; refine (rcode_any _ _).mono ?_; rintro e w' ⟨rfl, rfl⟩)
        go_ret2
        rw [hE.out]
        exact RetE.nil _ HB.out
      · have d2 : decide ((512 : Int) < (n : Int)) = false := decide_eq_false (by omega)
        by_cases hc : wcode Wi < 0
        · have hE := Lib.hid (pputE_no (l := l) (s := s) (.inr (.inr (.inr (.inl hc)))))
          have d3 : decide (wcode Wi < 0) = true := decide_eq_true hc
          clear hn hd hpe hl hb hc
          go_enter Tryz.func27, Tryz.ntmps27
          go_wp2_with fail
          refine HP.out.mono ?_
          rintro e w1 ⟨u, rfl, hu, hb1⟩
          obtain ⟨A1, c1, rfl, _⟩ := hu
          have HB := Lib.hid hb1
          have HV := Lib.hid (HVV.out.below hb1)
          clear hb1
          go_wp2_with (go_at_call 46; refine (rcode_any _ _).mono ?_; rintro e w' ⟨rfl, rfl⟩)
          go_ret2
          rw [hE.out]
          exact RetE.nil _ HB.out
        · have d3 : decide (wcode Wi < 0) = false := decide_eq_false hc
          by_cases h64 : 64 ≤ Wi
          · have hE := Lib.hid (pputE_no (l := l) (s := s) (.inr (.inr (.inr (.inr h64)))))
            have d4 : decide ((64 : Int) ≤ Wi) = true := decide_eq_true h64
            clear hn hd hpe hl hb hc h64
            go_enter Tryz.func27, Tryz.ntmps27
            go_wp2_with fail
            refine HP.out.mono ?_
            rintro e w1 ⟨u, rfl, hu, hb1⟩
            obtain ⟨A1, c1, rfl, _⟩ := hu
            have HB := Lib.hid hb1
            have HV := Lib.hid (HVV.out.below hb1)
            clear hb1
            go_wp2_with (go_at_call 46; refine (rcode_any _ _).mono ?_; rintro e w' ⟨rfl, rfl⟩)
            go_ret2
            rw [hE.out]
            exact RetE.nil _ HB.out
          · have d4 : decide ((64 : Int) ≤ Wi) = false := decide_eq_false h64
            obtain ⟨W, rfl⟩ := Int.eq_ofNat_of_zero_le (show 0 ≤ Wi by have := wcode_range (W := Wi) (by omega); omega)
            have hW1 := wcode_range (W := (W : Int)) (by omega)
            have hW64 : W < 64 := by omega
            have HN1 : Hid (1 ≤ l.length) := Lib.hid (by omega)
            have hn5 : n ≤ 512 := by omega
            have HDN : Hid (dplain l s ≠ none) := Lib.hid (by rw [hd]; exact fun h => nomatch h)
            have HWC : Hid (0 ≤ wcode (W : Int)) := Lib.hid (by omega)
            cases hu : pups l with
            | none =>
              have hE := Lib.hid (pputE_ups (W := (W : Int)) (s := s) hu)
              have HAB : Hid (paboveE l = (0, [], false)) := Lib.hid (by unfold paboveE; rw [hu])
              clear hn hd hpe hl hb hu hc h64 hW1
              go_enter Tryz.func27, Tryz.ntmps27
              go_wp2_with fail
              refine HP.out.mono ?_
              rintro e w1 ⟨u, rfl, hu, hb1⟩
              obtain ⟨A1, c1, rfl, _⟩ := hu
              have HB := Lib.hid hb1
              have HV := Lib.hid (HVV.out.below hb1)
              clear hb1
              go_wp2_with (go_at_call 46; refine (rcode_any _ _).mono ?_; rintro e w' ⟨rfl, rfl⟩)
              refine (rabove_any l _ w1 HV.out HL.out HN1.out (by have := HN.out; omega)).mono ?_
              rw [HAB.out]
              rintro e w2 ⟨uv2, rfl, huv2, hb2⟩
              have HB := Lib.hid (below_then HB.out hb2)
              have HU2 := Lib.hid huv2
              clear hb2 huv2
              go_wp2
              go_ret2
              rw [hE.out]
              exact RetE.nil _ HB.out
            | some us =>
              have HES := Lib.hid (pputE_some (s := s) HDN.out (by omega) (by omega) HWC.out hW64 hu)
              have HAB : Hid (paboveE l = (pbase l, us, pbase l != -9223372036854775808)) := Lib.hid (by unfold paboveE; rw [hu])
              have HUL : Hid (us.length = n) := Lib.hid (by rw [pups_len hu]; exact hn)
              have H64 : Hid (∀ u ∈ us, u < 2 ^ 64) := Lib.hid fun u h => by have := pups_lt hl hu u h; show u < 18446744073709551616; omega
              obtain ⟨base, hba⟩ : ∃ base, base = pbase l := ⟨_, rfl⟩
              rw [← hba] at HES HAB
              have HBI0 : Hid (inInt base) := Lib.hid (by rw [hba]; exact hl _ (pbase_mem (by omega)))
              by_cases hne : base = -9223372036854775808
              · have hE : Hid (pputE l W s = ([], 1)) := Lib.hid (by rw [HES.out, if_pos (.inl hne)])
                have HAB2 : Hid (paboveE l = (base, us, false)) := Lib.hid (by rw [HAB.out, hne]; rfl)
                have HAB := HAB2
                clear hn hd hpe hl hb hu hc h64 hW1 hba hne HAB2
                go_enter Tryz.func27, Tryz.ntmps27
                go_wp2_with fail
                refine HP.out.mono ?_
                rintro e w1 ⟨u, rfl, hu, hb1⟩
                obtain ⟨A1, c1, rfl, _⟩ := hu
                have HB := Lib.hid hb1
                have HV := Lib.hid (HVV.out.below hb1)
                clear hb1
                go_wp2_with (go_at_call 46; refine (rcode_any _ _).mono ?_; rintro e w' ⟨rfl, rfl⟩)
                refine (rabove_any l _ w1 HV.out HL.out HN1.out (by have := HN.out; omega)).mono ?_
                rw [HAB.out]
                rintro e w2 ⟨uv2, rfl, huv2, hb2⟩
                have HB := Lib.hid (below_then HB.out hb2)
                have HU2 := Lib.hid huv2
                clear hb2 huv2
                go_wp2
                go_ret2
                rw [hE.out]
                exact RetE.nil _ HB.out
              · have HAB2 : Hid (paboveE l = (base, us, true)) := Lib.hid (by rw [HAB.out, show (base != -9223372036854775808) = true by simpa using hne])
                have HAB := HAB2
                have HNE : Hid (base ≠ -9223372036854775808) := Lib.hid hne
                have HN8 : Hid (1 ≤ pn base ∧ pn base ≤ 8) := Lib.hid (by have := pn_bd (psize_base HBI0.out hne).2; omega)
                obtain ⟨g1, g8, p1, p64, pc, pcc, p31, pw, hq⟩ := ppairs_ok (w := W) H64.out
                have hq2 := (ppw_ok (w := W) H64.out).2.2
                have hpl := pst_len W us us.length
                have hpl2 := pst_last W us us.length
                obtain ⟨ps, hps⟩ : ∃ ps, ps = ppairs W us := ⟨_, rfl⟩
                rw [show (pst W us us.length).1 = ps from hps.symm] at hpl
                rw [← hps] at g1 g8 p1 p64 pc pcc p31 pw hq hq2 HES
                have HPS := Lib.hid hps.symm
                have HPL : Hid (ps.length ≤ 1030) := Lib.hid (by have := HUL.out; omega)
                have HQ := Lib.hid hq2
                have HQ2 := Lib.hid hq
                obtain ⟨G, hG⟩ : ∃ G, G = pgw ps := ⟨_, rfl⟩
                obtain ⟨P, hP⟩ : ∃ P, P = ppw ps := ⟨_, rfl⟩
                obtain ⟨CP, hCP⟩ : ∃ CP, CP = pcode P := ⟨_, rfl⟩
                obtain ⟨CW, hCW⟩ : ∃ CW, CW = pcode W := ⟨_, rfl⟩
                have hcb := pcode_back HWC.out
                rw [← hCW] at hcb
                rw [← hG] at g1 g8 HES
                rw [← hP] at p1 p64 pc pcc p31 HES
                rw [← hCP] at pcc p31
                have HG := Lib.hid hG
                have HGG := Lib.hid hG.symm
                have HPP := Lib.hid hP.symm
                have HCPP := Lib.hid hCP.symm
                have HCWE := Lib.hid hcb.2.2
                have HC31 := Lib.hid hcb.2.1
                have HCWD := Lib.hid hCW
                have HCPE := Lib.hid pcc
                have HP64 : Hid (∀ x ∈ ppats ps, x < 2 ^ 64) := Lib.hid fun x hx => by
                  obtain ⟨q, hm, rfl⟩ := List.mem_map.1 hx
                  exact (HQ.out q hm).2
                obtain ⟨M, hM⟩ : ∃ M, M = wmost (ppats ps) := ⟨_, rfl⟩
                have hpc : wclosest ((max 1 M : Nat) : Int) = (P : Int) := by rw [hM]; exact pc
                obtain ⟨X1, hX1⟩ : ∃ X1, X1 = max 1 M := ⟨_, rfl⟩
                rw [← hX1] at hpc
                have hmaxm : ∀ (ts : Array TypeId) (t : TypeId) (W : World), (Builtin.max_ ts t #[.int .i64 1, .int .i64 (M : Int)]).run Tryz.prog W = .ok (.int .i64 (X1 : Int)) W := fun ts t W => by
                  rw [run_max_int2]
                  congr 2
                  split <;> omega
                rw [hM] at hmaxm
                have HCL := Lib.hid (fun X => rclosest_any (X1 : Int) X)
                rw [hpc] at HCL
                obtain ⟨GP, hGP⟩ : ∃ GP, GP = G + P := ⟨_, rfl⟩
                have hGPi : (G : Int) + (P : Int) = (GP : Int) := by omega
                obtain ⟨WP, hWP⟩ : ∃ WP, WP = W + P := ⟨_, rfl⟩
                have hWPi : (W : Int) + (P : Int) = (WP : Int) := by omega
                rw [← hGP, ← hWP] at HES
                clear hn hd hpe hl hb hu hc h64 hba hne HAB2 hps hG hP hCP hCW hcb pcc pc pw hq hq2 hpl hpl2 hM hX1 hpc hGP hWP
                by_cases h31 : 31 < ps.length
                · have hE : Hid (pputE l W s = ([], 1)) := Lib.hid (by rw [HES.out, if_pos (.inr (.inl h31))])
                  go_enter Tryz.func27, Tryz.ntmps27
                  go_wp2_with fail
                  refine HP.out.mono ?_
                  rintro e w1 ⟨u, rfl, hu, hb1⟩
                  obtain ⟨A1, c1, rfl, _⟩ := hu
                  have HB := Lib.hid hb1
                  have HV := Lib.hid (HVV.out.below hb1)
                  clear hb1
                  go_wp2_with (go_at_call 46; refine (rcode_any _ _).mono ?_; rintro e w' ⟨rfl, rfl⟩)
                  refine (rabove_any l _ w1 HV.out HL.out HN1.out (by have := HN.out; omega)).mono ?_
                  rw [HAB.out]
                  rintro e w2 ⟨uv2, rfl, huv2, hb2⟩
                  have HB := Lib.hid (below_then HB.out hb2)
                  have HU2 := Lib.hid huv2
                  clear hb2 huv2
                  go_wp2_with fail
                  refine (rpairs_any us uv2 W w2 HU2.out H64.out (by have := HUL.out; omega) (by omega)).mono ?_
                  rw [HPS.out]
                  rintro e w3 ⟨gv, pv, rfl, hgv, hpv, hb3⟩
                  have HB := Lib.hid (below_then HB.out hb3)
                  have HU3 := Lib.hid (HU2.out.below hb3)
                  have HG3 := Lib.hid hgv
                  have HP3 := Lib.hid hpv
                  clear hb3 hgv hpv
                  obtain ⟨Ag, ng, cg, rfl⟩ := HG3.out.shape
                  have hng := HG3.out.parts.1
                  have HNG := Lib.hid (show ps.length = ng by rw [← hng]; simp [pgaps])
                  have hngb : ng ≤ 2000 := by have := HNG.out; have := HPL.out; omega
                  clear hng
                  go_wp2
                  go_loopw [15, 16] (GRel ps w3) (fun _ i _ => ng - (intOf i).toNat)
                  case atStart => exact ⟨0, by omega, rfl, rfl, rfl⟩
                  case round =>
                    obtain ⟨k, hk, rfl, rfl, rfl⟩ := hrel
                    have hk' : k ≤ ng := by have := HNG.out; omega
                    by_cases hlt : k < ng
                    · have hkl : k < (pgaps ps).length := by have := HNG.out; rw [pgaps, List.length_map]; omega
                      have hkp : k < ps.length := by have := HNG.out; omega
                      have hlti : (k : Int) < (ng : Int) := by omega
                      obtain ⟨adg, hAd, _, hcell⟩ := HG3.out.at hkl
                      subst hAd
                      obtain ⟨x, hx⟩ : ∃ x, x = ps[k].1 := ⟨_, rfl⟩
                      have hcx : wr.cell? (adg.add k) = some (.int .i64 (x : Int)) := by rw [hcell, hx]; simp [pgaps, iv]
                      have hx8 : x ≤ 255 := by rw [hx]; exact (HQ.out _ (List.getElem_mem hkp)).1
                      have hxw : IntKind.u64.wrap (x : Int) = (x : Int) := by rw [IntKind.wrap_u64]; omega
                      have HBI := Lib.hid (fun W => rbits_any x W (Nat.lt_of_le_of_lt hx8 (by decide)))
                      have HX := Lib.hid hx
                      obtain ⟨b, hb⟩ : ∃ b, b = wbits x := ⟨_, rfl⟩
                      rw [← hb] at HBI
                      obtain ⟨g0, hg0⟩ : ∃ g0, g0 = max 1 (wmost ((ps.map (·.1)).take k)) := ⟨_, rfl⟩
                      rw [← hg0]
                      obtain ⟨g1, hg1⟩ : ∃ g1, g1 = max g0 b := ⟨_, rfl⟩
                      have hmax : ∀ (ts : Array TypeId) (t : TypeId) (W : World), (Builtin.max_ ts t #[.int .i64 (g0 : Int), .int .i64 (b : Int)]).run Tryz.prog W = .ok (.int .i64 (g1 : Int)) W := fun ts t W => by
                        rw [run_max_int2]
                        congr 2
                        split <;> omega
                      have HG1 : Hid (g1 = max 1 (wmost ((ps.map (·.1)).take (k + 1)))) := Lib.hid (by rw [hg1, hg0, hb, List.take_succ_eq_append_getElem (by rw [List.length_map]; exact hkp), wmost_snoc, List.getElem_map, ← hx]; omega)
                      clear hcell hx hb hg0 hg1
                      go_wp2_with (go_at_call 41; refine (HBI.out _).mono ?_; rintro e w' ⟨rfl, rfl⟩)
                      go_roundw
                      case rel => exact ⟨k + 1, hkp, by go_num, by rw [HG1.out], rfl⟩
                      case measure => simp [intOf]; omega
                    · obtain rfl : ng = k := by omega
                      have hlti : ¬ (ng : Int) < (ng : Int) := by omega
                      rw [show max 1 (wmost ((ps.map (·.1)).take ng)) = G by rw [List.take_of_length_le (by rw [List.length_map]; have := HNG.out; omega), HG.out]; rfl]
                      have d5 : decide ((31 : Int) < (ng : Int)) = true := decide_eq_true (by have := HNG.out; omega)
                      go_wp2_with (first | (go_at_call 43; refine (rmost_is HP3.out (by rw [ppats, List.length_map]; have := HPL.out; omega) HP64.out).mono ?_; rintro e w' ⟨rfl, rfl⟩) | (go_at_call 42; refine (HCL.out _).mono ?_; rintro e w' ⟨rfl, rfl⟩))
                      go_ret2
                      rw [hE.out]
                      exact RetE.nil _ HB.out
                · by_cases hgp : 64 < GP
                  · have hE : Hid (pputE l W s = ([], 1)) := Lib.hid (by rw [HES.out, if_pos (.inr (.inr (.inl hgp)))])
                    go_enter Tryz.func27, Tryz.ntmps27
                    go_wp2_with fail
                    refine HP.out.mono ?_
                    rintro e w1 ⟨u, rfl, hu, hb1⟩
                    obtain ⟨A1, c1, rfl, _⟩ := hu
                    have HB := Lib.hid hb1
                    have HV := Lib.hid (HVV.out.below hb1)
                    clear hb1
                    go_wp2_with (go_at_call 46; refine (rcode_any _ _).mono ?_; rintro e w' ⟨rfl, rfl⟩)
                    refine (rabove_any l _ w1 HV.out HL.out HN1.out (by have := HN.out; omega)).mono ?_
                    rw [HAB.out]
                    rintro e w2 ⟨uv2, rfl, huv2, hb2⟩
                    have HB := Lib.hid (below_then HB.out hb2)
                    have HU2 := Lib.hid huv2
                    clear hb2 huv2
                    go_wp2_with fail
                    refine (rpairs_any us uv2 W w2 HU2.out H64.out (by have := HUL.out; omega) (by omega)).mono ?_
                    rw [HPS.out]
                    rintro e w3 ⟨gv, pv, rfl, hgv, hpv, hb3⟩
                    have HB := Lib.hid (below_then HB.out hb3)
                    have HU3 := Lib.hid (HU2.out.below hb3)
                    have HG3 := Lib.hid hgv
                    have HP3 := Lib.hid hpv
                    clear hb3 hgv hpv
                    obtain ⟨Ag, ng, cg, rfl⟩ := HG3.out.shape
                    have hng := HG3.out.parts.1
                    have HNG := Lib.hid (show ps.length = ng by rw [← hng]; simp [pgaps])
                    have hngb : ng ≤ 2000 := by have := HNG.out; have := HPL.out; omega
                    clear hng
                    go_wp2
                    go_loopw [15, 16] (GRel ps w3) (fun _ i _ => ng - (intOf i).toNat)
                    case atStart => exact ⟨0, by omega, rfl, rfl, rfl⟩
                    case round =>
                      obtain ⟨k, hk, rfl, rfl, rfl⟩ := hrel
                      have hk' : k ≤ ng := by have := HNG.out; omega
                      by_cases hlt : k < ng
                      · have hkl : k < (pgaps ps).length := by have := HNG.out; rw [pgaps, List.length_map]; omega
                        have hkp : k < ps.length := by have := HNG.out; omega
                        have hlti : (k : Int) < (ng : Int) := by omega
                        obtain ⟨adg, hAd, _, hcell⟩ := HG3.out.at hkl
                        subst hAd
                        obtain ⟨x, hx⟩ : ∃ x, x = ps[k].1 := ⟨_, rfl⟩
                        have hcx : wr.cell? (adg.add k) = some (.int .i64 (x : Int)) := by rw [hcell, hx]; simp [pgaps, iv]
                        have hx8 : x ≤ 255 := by rw [hx]; exact (HQ.out _ (List.getElem_mem hkp)).1
                        have hxw : IntKind.u64.wrap (x : Int) = (x : Int) := by rw [IntKind.wrap_u64]; omega
                        have HBI := Lib.hid (fun W => rbits_any x W (Nat.lt_of_le_of_lt hx8 (by decide)))
                        have HX := Lib.hid hx
                        obtain ⟨b, hb⟩ : ∃ b, b = wbits x := ⟨_, rfl⟩
                        rw [← hb] at HBI
                        obtain ⟨g0, hg0⟩ : ∃ g0, g0 = max 1 (wmost ((ps.map (·.1)).take k)) := ⟨_, rfl⟩
                        rw [← hg0]
                        obtain ⟨g1, hg1⟩ : ∃ g1, g1 = max g0 b := ⟨_, rfl⟩
                        have hmax : ∀ (ts : Array TypeId) (t : TypeId) (W : World), (Builtin.max_ ts t #[.int .i64 (g0 : Int), .int .i64 (b : Int)]).run Tryz.prog W = .ok (.int .i64 (g1 : Int)) W := fun ts t W => by
                          rw [run_max_int2]
                          congr 2
                          split <;> omega
                        have HG1 : Hid (g1 = max 1 (wmost ((ps.map (·.1)).take (k + 1)))) := Lib.hid (by rw [hg1, hg0, hb, List.take_succ_eq_append_getElem (by rw [List.length_map]; exact hkp), wmost_snoc, List.getElem_map, ← hx]; omega)
                        clear hcell hx hb hg0 hg1
                        go_wp2_with (go_at_call 41; refine (HBI.out _).mono ?_; rintro e w' ⟨rfl, rfl⟩)
                        go_roundw
                        case rel => exact ⟨k + 1, hkp, by go_num, by rw [HG1.out], rfl⟩
                        case measure => simp [intOf]; omega
                      · obtain rfl : ng = k := by omega
                        have hlti : ¬ (ng : Int) < (ng : Int) := by omega
                        rw [show max 1 (wmost ((ps.map (·.1)).take ng)) = G by rw [List.take_of_length_le (by rw [List.length_map]; have := HNG.out; omega), HG.out]; rfl]
                        have d5 : decide ((31 : Int) < (ng : Int)) = false := decide_eq_false (by have := HNG.out; omega)
                        have d6 : decide ((64 : Int) < (GP : Int)) = true := decide_eq_true (by omega)
                        go_wp2_with (first | (go_at_call 43; refine (rmost_is HP3.out (by rw [ppats, List.length_map]; have := HPL.out; omega) HP64.out).mono ?_; rintro e w' ⟨rfl, rfl⟩) | (go_at_call 42; refine (HCL.out _).mono ?_; rintro e w' ⟨rfl, rfl⟩))
                        go_ret2
                        rw [hE.out]
                        exact RetE.nil _ HB.out
                  · by_cases hwp : 64 < WP
                    · have hE : Hid (pputE l W s = ([], 1)) := Lib.hid (by rw [HES.out, if_pos (.inr (.inr (.inr hwp)))])
                      go_enter Tryz.func27, Tryz.ntmps27
                      go_wp2_with fail
                      refine HP.out.mono ?_
                      rintro e w1 ⟨u, rfl, hu, hb1⟩
                      obtain ⟨A1, c1, rfl, _⟩ := hu
                      have HB := Lib.hid hb1
                      have HV := Lib.hid (HVV.out.below hb1)
                      clear hb1
                      go_wp2_with (go_at_call 46; refine (rcode_any _ _).mono ?_; rintro e w' ⟨rfl, rfl⟩)
                      refine (rabove_any l _ w1 HV.out HL.out HN1.out (by have := HN.out; omega)).mono ?_
                      rw [HAB.out]
                      rintro e w2 ⟨uv2, rfl, huv2, hb2⟩
                      have HB := Lib.hid (below_then HB.out hb2)
                      have HU2 := Lib.hid huv2
                      clear hb2 huv2
                      go_wp2_with fail
                      refine (rpairs_any us uv2 W w2 HU2.out H64.out (by have := HUL.out; omega) (by omega)).mono ?_
                      rw [HPS.out]
                      rintro e w3 ⟨gv, pv, rfl, hgv, hpv, hb3⟩
                      have HB := Lib.hid (below_then HB.out hb3)
                      have HU3 := Lib.hid (HU2.out.below hb3)
                      have HG3 := Lib.hid hgv
                      have HP3 := Lib.hid hpv
                      clear hb3 hgv hpv
                      obtain ⟨Ag, ng, cg, rfl⟩ := HG3.out.shape
                      have hng := HG3.out.parts.1
                      have HNG := Lib.hid (show ps.length = ng by rw [← hng]; simp [pgaps])
                      have hngb : ng ≤ 2000 := by have := HNG.out; have := HPL.out; omega
                      clear hng
                      go_wp2
                      go_loopw [15, 16] (GRel ps w3) (fun _ i _ => ng - (intOf i).toNat)
                      case atStart => exact ⟨0, by omega, rfl, rfl, rfl⟩
                      case round =>
                        obtain ⟨k, hk, rfl, rfl, rfl⟩ := hrel
                        have hk' : k ≤ ng := by have := HNG.out; omega
                        by_cases hlt : k < ng
                        · have hkl : k < (pgaps ps).length := by have := HNG.out; rw [pgaps, List.length_map]; omega
                          have hkp : k < ps.length := by have := HNG.out; omega
                          have hlti : (k : Int) < (ng : Int) := by omega
                          obtain ⟨adg, hAd, _, hcell⟩ := HG3.out.at hkl
                          subst hAd
                          obtain ⟨x, hx⟩ : ∃ x, x = ps[k].1 := ⟨_, rfl⟩
                          have hcx : wr.cell? (adg.add k) = some (.int .i64 (x : Int)) := by rw [hcell, hx]; simp [pgaps, iv]
                          have hx8 : x ≤ 255 := by rw [hx]; exact (HQ.out _ (List.getElem_mem hkp)).1
                          have hxw : IntKind.u64.wrap (x : Int) = (x : Int) := by rw [IntKind.wrap_u64]; omega
                          have HBI := Lib.hid (fun W => rbits_any x W (Nat.lt_of_le_of_lt hx8 (by decide)))
                          have HX := Lib.hid hx
                          obtain ⟨b, hb⟩ : ∃ b, b = wbits x := ⟨_, rfl⟩
                          rw [← hb] at HBI
                          obtain ⟨g0, hg0⟩ : ∃ g0, g0 = max 1 (wmost ((ps.map (·.1)).take k)) := ⟨_, rfl⟩
                          rw [← hg0]
                          obtain ⟨g1, hg1⟩ : ∃ g1, g1 = max g0 b := ⟨_, rfl⟩
                          have hmax : ∀ (ts : Array TypeId) (t : TypeId) (W : World), (Builtin.max_ ts t #[.int .i64 (g0 : Int), .int .i64 (b : Int)]).run Tryz.prog W = .ok (.int .i64 (g1 : Int)) W := fun ts t W => by
                            rw [run_max_int2]
                            congr 2
                            split <;> omega
                          have HG1 : Hid (g1 = max 1 (wmost ((ps.map (·.1)).take (k + 1)))) := Lib.hid (by rw [hg1, hg0, hb, List.take_succ_eq_append_getElem (by rw [List.length_map]; exact hkp), wmost_snoc, List.getElem_map, ← hx]; omega)
                          clear hcell hx hb hg0 hg1
                          go_wp2_with (go_at_call 41; refine (HBI.out _).mono ?_; rintro e w' ⟨rfl, rfl⟩)
                          go_roundw
                          case rel => exact ⟨k + 1, hkp, by go_num, by rw [HG1.out], rfl⟩
                          case measure => simp [intOf]; omega
                        · obtain rfl : ng = k := by omega
                          have hlti : ¬ (ng : Int) < (ng : Int) := by omega
                          rw [show max 1 (wmost ((ps.map (·.1)).take ng)) = G by rw [List.take_of_length_le (by rw [List.length_map]; have := HNG.out; omega), HG.out]; rfl]
                          have d5 : decide ((31 : Int) < (ng : Int)) = false := decide_eq_false (by have := HNG.out; omega)
                          have d6 : decide ((64 : Int) < (GP : Int)) = false := decide_eq_false (by omega)
                          have d7 : decide ((64 : Int) < (WP : Int)) = true := decide_eq_true (by omega)
                          go_wp2_with (first | (go_at_call 43; refine (rmost_is HP3.out (by rw [ppats, List.length_map]; have := HPL.out; omega) HP64.out).mono ?_; rintro e w' ⟨rfl, rfl⟩) | (go_at_call 42; refine (HCL.out _).mono ?_; rintro e w' ⟨rfl, rfl⟩))
                          go_ret2
                          rw [hE.out]
                          exact RetE.nil _ HB.out
                    · have hE : Hid (pputE l W s = (play base us W, 0)) := Lib.hid (by rw [HES.out, if_neg (by rintro (h | h | h | h) <;> first | exact HNE.out h | omega)])
                      go_enter Tryz.func27, Tryz.ntmps27
                      go_wp2_with fail
                      refine HP.out.mono ?_
                      rintro e w1 ⟨u, rfl, hu, hb1⟩
                      obtain ⟨A1, c1, rfl, _⟩ := hu
                      have HB := Lib.hid hb1
                      have HV := Lib.hid (HVV.out.below hb1)
                      clear hb1
                      go_wp2_with (go_at_call 46; refine (rcode_any _ _).mono ?_; rintro e w' ⟨rfl, rfl⟩)
                      refine (rabove_any l _ w1 HV.out HL.out HN1.out (by have := HN.out; omega)).mono ?_
                      rw [HAB.out]
                      rintro e w2 ⟨uv2, rfl, huv2, hb2⟩
                      have HB := Lib.hid (below_then HB.out hb2)
                      have HU2 := Lib.hid huv2
                      clear hb2 huv2
                      go_wp2_with fail
                      refine (rpairs_any us uv2 W w2 HU2.out H64.out (by have := HUL.out; omega) (by omega)).mono ?_
                      rw [HPS.out]
                      rintro e w3 ⟨gv, pv, rfl, hgv, hpv, hb3⟩
                      have HB := Lib.hid (below_then HB.out hb3)
                      have HU3 := Lib.hid (HU2.out.below hb3)
                      have HG3 := Lib.hid hgv
                      have HP3 := Lib.hid hpv
                      clear hb3 hgv hpv
                      obtain ⟨Ag, ng, cg, rfl⟩ := HG3.out.shape
                      have hng := HG3.out.parts.1
                      have HNG := Lib.hid (show ps.length = ng by rw [← hng]; simp [pgaps])
                      have hngb : ng ≤ 2000 := by have := HNG.out; have := HPL.out; omega
                      clear hng
                      go_wp2
                      go_loopw [15, 16] (GRel ps w3) (fun _ i _ => ng - (intOf i).toNat)
                      case atStart => exact ⟨0, by omega, rfl, rfl, rfl⟩
                      case round =>
                        obtain ⟨k, hk, rfl, rfl, rfl⟩ := hrel
                        have hk' : k ≤ ng := by have := HNG.out; omega
                        by_cases hlt : k < ng
                        · have hkl : k < (pgaps ps).length := by have := HNG.out; rw [pgaps, List.length_map]; omega
                          have hkp : k < ps.length := by have := HNG.out; omega
                          have hlti : (k : Int) < (ng : Int) := by omega
                          obtain ⟨adg, hAd, _, hcell⟩ := HG3.out.at hkl
                          subst hAd
                          obtain ⟨x, hx⟩ : ∃ x, x = ps[k].1 := ⟨_, rfl⟩
                          have hcx : wr.cell? (adg.add k) = some (.int .i64 (x : Int)) := by rw [hcell, hx]; simp [pgaps, iv]
                          have hx8 : x ≤ 255 := by rw [hx]; exact (HQ.out _ (List.getElem_mem hkp)).1
                          have hxw : IntKind.u64.wrap (x : Int) = (x : Int) := by rw [IntKind.wrap_u64]; omega
                          have HBI := Lib.hid (fun W => rbits_any x W (Nat.lt_of_le_of_lt hx8 (by decide)))
                          have HX := Lib.hid hx
                          obtain ⟨b, hb⟩ : ∃ b, b = wbits x := ⟨_, rfl⟩
                          rw [← hb] at HBI
                          obtain ⟨g0, hg0⟩ : ∃ g0, g0 = max 1 (wmost ((ps.map (·.1)).take k)) := ⟨_, rfl⟩
                          rw [← hg0]
                          obtain ⟨g1, hg1⟩ : ∃ g1, g1 = max g0 b := ⟨_, rfl⟩
                          have hmax : ∀ (ts : Array TypeId) (t : TypeId) (W : World), (Builtin.max_ ts t #[.int .i64 (g0 : Int), .int .i64 (b : Int)]).run Tryz.prog W = .ok (.int .i64 (g1 : Int)) W := fun ts t W => by
                            rw [run_max_int2]
                            congr 2
                            split <;> omega
                          have HG1 : Hid (g1 = max 1 (wmost ((ps.map (·.1)).take (k + 1)))) := Lib.hid (by rw [hg1, hg0, hb, List.take_succ_eq_append_getElem (by rw [List.length_map]; exact hkp), wmost_snoc, List.getElem_map, ← hx]; omega)
                          clear hcell hx hb hg0 hg1
                          go_wp2_with (go_at_call 41; refine (HBI.out _).mono ?_; rintro e w' ⟨rfl, rfl⟩)
                          go_roundw
                          case rel => exact ⟨k + 1, hkp, by go_num, by rw [HG1.out], rfl⟩
                          case measure => simp [intOf]; omega
                        · obtain rfl : ng = k := by omega
                          have hlti : ¬ (ng : Int) < (ng : Int) := by omega
                          rw [show max 1 (wmost ((ps.map (·.1)).take ng)) = G by rw [List.take_of_length_le (by rw [List.length_map]; have := HNG.out; omega), HG.out]; rfl]
                          have d5 : decide ((31 : Int) < (ng : Int)) = false := decide_eq_false (by have := HNG.out; omega)
                          have d6 : decide ((64 : Int) < (GP : Int)) = false := decide_eq_false (by omega)
                          have d7 : decide ((64 : Int) < (WP : Int)) = false := decide_eq_false (by omega)
                          have hng31 : ng ≤ 31 := by have := HNG.out; omega
                          obtain ⟨W2, hW2⟩ : ∃ W2, W2 = (wclosest (GP : Int)).toNat := ⟨_, rfl⟩
                          have hpcl := pclose (n := GP) (by omega)
                          rw [← hW2] at hpcl
                          have HW2 := Lib.hid hpcl.2.2.2.2.2.1
                          have HW2b := Lib.hid (show W2 ≤ 64 ∧ GP ≤ W2 from ⟨hpcl.2.1, hpcl.2.2.1⟩)
                          have HW2E := Lib.hid hW2
                          have HQ3 : Hid (∀ q ∈ ps, q.1 < 2 ^ G ∧ q.2 < 2 ^ P) := Lib.hid (by rw [← HGG.out, ← HPP.out]; exact HQ2.out)
                          have hGPn : GP = G + P := by omega
                          have HGPN := Lib.hid hGPn
                          clear hW2 hpcl hGPn
                          go_wp2_with (first | (go_at_call 43; refine (rmost_is HP3.out (by rw [ppats, List.length_map]; have := HPL.out; omega) HP64.out).mono ?_; rintro e w' ⟨rfl, rfl⟩) | (go_at_call 42; refine (HCL.out _).mono ?_; rintro e w' ⟨rfl, rfl⟩) | (go_at_call 51; refine (rbased_any base _ HBI0.out HNE.out).mono ?_))
                          rintro e w4 ⟨bv4, rfl, hown4, hb4⟩
                          have HB := Lib.hid (below_then HB.out hb4)
                          have HU4 := Lib.hid (HU3.out.below hb4)
                          have HG4 := Lib.hid (HG3.out.below hb4)
                          have HP4 := Lib.hid (HP3.out.below hb4)
                          have HI4 := Lib.hid (isB_own hown4)
                          clear hb4 hown4
                          obtain ⟨Ab, nb, cb, rfl⟩ := IsV.shape (f := bv) HI4.out
                          have hnb := (IsV.parts (f := bv) HI4.out).1
                          have HNB := Lib.hid hnb
                          rw [pbased_len] at hnb
                          obtain ⟨N1, hN1⟩ : ∃ N1, N1 = nb - 1 := ⟨_, rfl⟩
                          have hN1i : (nb : Int) - 1 = (N1 : Int) := by have := HN8.out; omega
                          obtain ⟨M1, hM1⟩ : ∃ M1, M1 = 32 * N1 := ⟨_, rfl⟩
                          have hM1i : 32 * (N1 : Int) = (M1 : Int) := by omega
                          obtain ⟨X, hX⟩ : ∃ X, X = M1 + CP := ⟨_, rfl⟩
                          have hXi : (M1 : Int) + (CP : Int) = (X : Int) := by omega
                          obtain ⟨G1, hG1⟩ : ∃ G1, G1 = G - 1 := ⟨_, rfl⟩
                          have hG1i : (G : Int) - 1 = (G1 : Int) := by omega
                          obtain ⟨M2, hM2⟩ : ∃ M2, M2 = 32 * G1 := ⟨_, rfl⟩
                          have hM2i : 32 * (G1 : Int) = (M2 : Int) := by omega
                          obtain ⟨Y, hY⟩ : ∃ Y, Y = M2 + ng := ⟨_, rfl⟩
                          have hYi : (M2 : Int) + (ng : Int) = (Y : Int) := by omega
                          have hX8 : X < 256 := by have := HN8.out; omega
                          have hY8 : Y < 256 := by omega
                          have hXw : IntKind.u8.wrap (X : Int) = (X : Int) := by rw [IntKind.wrap_u8]; omega
                          have hYw : IntKind.u8.wrap (Y : Int) = (Y : Int) := by rw [IntKind.wrap_u8]; omega
                          have HXY : Hid (pheadb base ps = [UInt8.ofNat X, UInt8.ofNat Y]) := Lib.hid (by unfold pheadb; rw [HPP.out, HGG.out, HCPP.out, HNG.out, hnb, ← hN1, ← hM1, ← hX, ← hG1, ← hM2, ← hY])
                          have hXb := bv_low7 hX8
                          have hYb := bv_low7 hY8
                          have HXB := Lib.hid hXb
                          have HYB := Lib.hid hYb
                          clear hXb hYb hN1 hM1 hX hG1 hM2 hY hnb
                          have HCW := Lib.hid (fun X => rcode_any (W : Int) X)
                          rw [HCWE.out] at HCW
                          have HCQ := Lib.hid (fun X => rcode_any (P : Int) X)
                          rw [HCPE.out] at HCQ
                          have HHD := Lib.hid (fun X => rhead8_any 2 (CW : Int) (n : Int) X)
                          rw [show (2 : Int) = ((2 : Nat) : Int) from rfl, dhead_in (by omega) HC31.out (by have := HN1.out; have := HN.out; omega) (by omega)] at HHD
                          go_wp2_with (go_at_call 46; refine (HCW.out _).mono ?_; rintro e w' ⟨rfl, rfl⟩)
                          refine (HHD.out _).mono ?_
                          rintro e w5 ⟨hv5, rfl, hown5, hb5⟩
                          rw [dheadN_len] at hown5
                          have HU5 := Lib.hid (HU4.out.below hb5)
                          have HG5 := Lib.hid (HG4.out.below hb5)
                          have HP5 := Lib.hid (HP4.out.below hb5)
                          have HI5 := Lib.hid (IsB.below HI4.out hb5)
                          have HOW := Lib.hid hown5
                          have HBF := Lib.hid hb5
                          have hz5 := hb5.size
                          clear hown5 hb5
                          have hown6 := HOW.out.alloc (.cells #[.int .u8 (X : Int), .int .u8 (Y : Int)] 5)
                          have hb6 := HBF.out.alloc hz5 (.cells #[.int .u8 (X : Int), .int .u8 (Y : Int)] 5)
                          have hz6 := hb6.size
                          have hlXY : Lies (w5.alloc (.cells #[.int .u8 (X : Int), .int .u8 (Y : Int)] 5)) (some ⟨w5.heap.size, 0, none⟩) ([UInt8.ofNat X, UInt8.ofNat Y].map bv) := by
                            have h : Row (w5.alloc (.cells #[.int .u8 (X : Int), .int .u8 (Y : Int)] 5)) w5.heap.size 5 ([UInt8.ofNat X, UInt8.ofNat Y].map bv) := by rw [List.map_cons, List.map_cons, List.map_nil, ← HXB.out, ← HYB.out]; exact heap_alloc_new w5 _
                            exact h.lies 0
                          go_wp2_with (first | (go_at_call 46; refine (HCQ.out _).mono ?_; rintro e w' ⟨rfl, rfl⟩) | (at_builtin; refine wpList_join elemB rfl _ _ rfl w4.heap.size _ _ _ _ _ _ ([UInt8.ofNat X, UInt8.ofNat Y].map bv) w4 rfl rfl (by simp) rfl hlXY (bv_one _) hown6 hb6 hz6 (by omega) (by omega) ?_))
                          intro v6 w6 hown6' hb6' _ _
                          have hz6' := hb6'.size
                          obtain ⟨-, hAb, -, -, hlb⟩ := IsV.parts (f := bv) (IsB.below HI4.out hb6')
                          have HBM := Lib.hid (show ((pbased base).map bv).length = nb by rw [List.length_map]; exact HNB.out)
                          have hnb8 : nb ≤ 8 := by have := HNB.out; rw [pbased_len] at this; have := HN8.out; omega
                          clear hown6 hb6 hz6 hlXY
                          go_wp2_with (at_builtin; refine wpList_join elemB rfl _ _ rfl w4.heap.size _ _ _ _ _ _ ((pbased base).map bv) w4 rfl rfl hAb HBM.out hlb (bv_one _) hown6' hb6' hz6' (by omega) (by omega) ?_)
                          intro v7 w7 hown7 hb7 _ _
                          have HOUT := Lib.hid hown7
                          have HB7 := Lib.hid (below_then HB.out hb7)
                          have HU7 := Lib.hid (HU4.out.below hb7)
                          have HG7 := Lib.hid (HG4.out.below hb7)
                          have HP7 := Lib.hid (HP4.out.below hb7)
                          have HB47 := Lib.hid hb7
                          have hst : PRowRel (plow us W) w7 (.slice (some ⟨w7.heap.size, 0, none⟩) 0 0) (.int .i64 0) (w7.alloc (.cells #[] 53)) := ⟨0, by omega, rfl, own_made w7 _, (Below.refl _ _).alloc (Nat.le_refl _) _⟩
                          have HST := Lib.hid hst
                          clear hst hown6' hb6' hz6' hown7 hb7 hlb hAb
                          obtain ⟨Au, nu, cu, rfl⟩ := HU7.out.shape
                          have hnu := HU7.out.parts.1
                          have hnun : nu = n := by rw [← hnu]; exact HUL.out
                          have hnu5 : nu ≤ 512 := by omega
                          have HLL := Lib.hid (show (plow us W).length = nu by rw [plow, List.length_map]; exact hnu)
                          have HNU := Lib.hid hnu
                          have HNUN := Lib.hid hnun
                          clear hnu hnun
                          go_wp2
                          go_loopw [20, 21] (PRowRel (plow us W) w7) (fun _ i _ => nu - (intOf i).toNat)
                          case atStart => exact HST.out
                          case round =>
                            obtain ⟨k, hk, rfl, hlow, hbr⟩ := hrel
                            have HSTT := HST
                            clear HST
                            have hk' : k ≤ nu := by have := HLL.out; omega
                            have hz := hbr.size
                            by_cases hlt : k < nu
                            · have hkl : k < us.length := by have := HNU.out; omega
                              have hlti : (k : Int) < (nu : Int) := by omega
                              obtain ⟨adu, hAd, hadl, hcell⟩ := HU7.out.at hkl
                              subst hAd
                              obtain ⟨x, hx⟩ : ∃ x, x = us[k] := ⟨_, rfl⟩
                              have hx64 : x < 18446744073709551616 := by rw [hx]; exact H64.out _ (List.getElem_mem hkl)
                              obtain ⟨z, hz0⟩ : ∃ z, z = x % 2 ^ W := ⟨_, rfl⟩
                              obtain ⟨K, hK⟩ : ∃ K, K = 2 ^ W := ⟨_, rfl⟩
                              obtain ⟨K1, hK1⟩ : ∃ K1, K1 = K - 1 := ⟨_, rfl⟩
                              have hkp : 1 ≤ K := by rw [hK]; exact Nat.one_le_two_pow
                              have hK64 : K < 18446744073709551616 := by rw [hK]; exact Nat.pow_lt_pow_right (by omega) hW64
                              have hKc : (2 : Int) ^ W = (K : Int) := by rw [hK]; simp
                              have hKw : IntKind.u64.wrap (K : Int) = (K : Int) := by rw [IntKind.wrap_u64]; omega
                              have hK1i : (K : Int) - 1 = (K1 : Int) := by omega
                              have hK1w : IntKind.u64.wrap (K1 : Int) = (K1 : Int) := by rw [IntKind.wrap_u64]; omega
                              have hand : bits .and .u64 (x : Int) (K1 : Int) = (z : Int) := by rw [u64_and _ _ (by omega) (by omega) (by omega) (by omega), Int.toNat_natCast, Int.toNat_natCast, hK1, hK, Nat.and_two_pow_sub_one_eq_mod, hz0]
                              have HZ : Hid ((plow us W).take (k + 1) = (plow us W).take k ++ [z]) := Lib.hid (by rw [List.take_succ_eq_append_getElem (by rw [plow, List.length_map]; exact hkl)]; congr 2; rw [hz0, hx]; simp [plow])
                              have hcx : wr.cell? (adu.add k) = some (.int .u64 (x : Int)) := by rw [hbr.cell (by rw [add_block]; exact hadl), hcell, hx]; rfl
                              clear hcell hx hx64 hz0 hK hK1 hkp hK64
                              have HCX := Lib.hid hcx
                              have HADU := Lib.hid hadl
                              have HLOWO := Lib.hid hlow
                              have HBRR := Lib.hid hbr
                              have hadw : adu.block < wr.heap.size := Nat.lt_of_lt_of_le hadl hbr.size
                              have HADW := Lib.hid hadw
                              clear hcx hlow hbr hz hadl hadw
                              go_wp2
                              refine wp_region_list_tail 10 [.is (u20), .is (.slice (some adu) nu cu), .is (.int .i64 (k : Int)), .is (.pointer (some (adu.add k))), .is (.int .u64 (x : Int)), .is (.int .i64 (W : Int)), .is (.int .u64 (K : Int)), .is (.int .u64 (K1 : Int)), .is (.int .u64 (z : Int)), .vals uv [z]] [some 136, some 137, some 138, some 139, some 140, some 141, some 142, some 143, some 144, some 145] (by kernel_rfl) (by kernel_rfl) (by kernel_rfl) (by kernel_rfl) rfl ⟨?_, ?_, ?_, ?_, ?_, ?_, ?_, ?_, ?_, ?_, trivial⟩ ?_
                              · intro ρ W1 hb1 H
                                exact gives_move rfl (H.old 20 _ (by kernel_rfl) rfl) ⟨rfl, Below.refl _ _⟩
                              · intro ρ W1 hb1 H
                                exact gives_move rfl (H.old 11 _ (by kernel_rfl) rfl) ⟨rfl, Below.refl _ _⟩
                              · intro ρ W1 hb1 H
                                exact gives_move rfl (H.old 21 _ (by kernel_rfl) rfl) ⟨rfl, Below.refl _ _⟩
                              · intro ρ W1 hb1 H
                                exact gives_index (k := k) elemU rfl (H.new 137 1 (by kernel_rfl)) (H.new 138 2 (by kernel_rfl)) hlt ⟨rfl, Below.refl _ _⟩
                              · intro ρ W1 hb1 H
                                exact gives_load rfl (H.new 139 3 (by kernel_rfl)) Tryz.underlying53 rfl ((hb1.cell (by rw [add_block]; exact HADW.out)).trans HCX.out) ⟨rfl, Below.refl _ _⟩
                              · intro ρ W1 hb1 H
                                exact gives_move rfl (H.old 1 _ (by kernel_rfl) rfl) ⟨rfl, Below.refl _ _⟩
                              · intro ρ W1 hb1 H
                                exact gives_shl64 (k := W) rfl (H.const _) (H.new 141 5 (by kernel_rfl)) (by omega) (by rw [Int.one_mul, hKc]; exact hKw) ⟨rfl, Below.refl _ _⟩
                              · intro ρ W1 hb1 H
                                exact gives_sub64 rfl (H.new 142 6 (by kernel_rfl)) (H.const _) (by rw [hK1i]; exact hK1w) ⟨rfl, Below.refl _ _⟩
                              · intro ρ W1 hb1 H
                                exact gives_and64 rfl (H.new 140 4 (by kernel_rfl)) (H.new 143 7 (by kernel_rfl)) hand ⟨rfl, Below.refl _ _⟩
                              · intro ρ W1 hb1 H
                                exact gives_val (f := uv) elemU (a := z) rfl (H.new 144 8 (by kernel_rfl)) rfl fun _ _ h hb => ⟨h, hb⟩
                              · intro vs W1 hb1 hfs
                                have f0 : vs 0 = (u20) := hfs 0 (by decide)
                                have f1 : vs 1 = (.slice (some adu) nu cu) := hfs 1 (by decide)
                                have f2 : vs 2 = (.int .i64 (k : Int)) := hfs 2 (by decide)
                                have f3 : vs 3 = (.pointer (some (adu.add k))) := hfs 3 (by decide)
                                have f4 : vs 4 = (.int .u64 (x : Int)) := hfs 4 (by decide)
                                have f5 : vs 5 = (.int .i64 (W : Int)) := hfs 5 (by decide)
                                have f6 : vs 6 = (.int .u64 (K : Int)) := hfs 6 (by decide)
                                have f7 : vs 7 = (.int .u64 (K1 : Int)) := hfs 7 (by decide)
                                have f8 : vs 8 = (.int .u64 (z : Int)) := hfs 8 (by decide)
                                have f9 : IsV uv [z] (vs 9) W1 := hfs 9 (by decide)
                                clear hfs
                                simp only [putAll, Nat.zero_add, Nat.reduceAdd, List.drop_succ_cons, List.drop_zero]
                                rw [f0, f1, f2, f3, f4, f5, f6, f7, f8]
                                clear f0 f1 f2 f3 f4 f5 f6 f7 f8
                                simp only [Act.put, List.setIfInBounds_toArray, List.set_cons_succ, List.set_cons_zero]
                                have hown1 := own_below HLOWO.out hb1
                                have hB1 := HBRR.out.trans (hb1.mono HBRR.out.size)
                                have hz1 := hB1.size
                                obtain ⟨A9, n9, c9, e9⟩ := f9.shape
                                rw [e9] at f9 ⊢
                                obtain ⟨hn9, hA9, -, -, hl9⟩ := f9.parts
                                have hn91 : n9 = 1 := by rw [← hn9]; rfl
                                subst hn91
                                clear e9 hn9 f9
                                go_wp2_with (at_builtin; refine wpList_join elemU rfl _ _ rfl w7.heap.size _ _ _ _ _ _ ([z].map uv) w7 rfl rfl hA9 (by simp) hl9 (by intro u hu; simp at hu; subst hu; rfl) hown1 hB1 hz1 (by omega) (by omega) ?_)
                                intro v9 w9 hown9 hb9 _ _
                                have hrel : PRowRel (plow us W) w7 v9 (.int .i64 ((k : Int) + 1)) w9 := ⟨k + 1, by have := HLL.out; omega, by rw [Int.natCast_add]; rfl, by rw [HZ.out, List.map_append, List.map_take]; exact hown9, hb9⟩
                                have HREL := Lib.hid hrel
                                have hki : IntKind.i64.wrap ((k : Int) + 1) = (k : Int) + 1 := by rw [IntKind.wrap_i64]; omega
                                clear hown9 hb9 hrel hown1 hB1 hz1 hl9 hA9
                                go_wp2
                                go_roundw
                                case rel => exact HREL.out
                                case measure => simp [intOf]; omega
                            · obtain rfl : nu = k := by omega
                              have hlti : ¬ (nu : Int) < (nu : Int) := by omega
                              rw [List.take_of_length_le (by have := HLL.out; omega)] at hlow
                              have HLOW := Lib.hid (isU_own hlow)
                              have hz8 := hbr.size
                              have HOUT8 := Lib.hid (own_below HOUT.out hbr)
                              have HG8 := Lib.hid (HG7.out.below hbr)
                              have HP8 := Lib.hid (HP7.out.below hbr)
                              have HB8 := Lib.hid (HB47.out.trans (hbr.mono HB47.out.size))
                              clear hlow hbr hz8
                              go_wp2_with fail
                              refine (rpack_is (W : Int) HLOW.out (by have := HLL.out; omega) (fun z hz => by obtain ⟨u, hu, rfl⟩ := List.mem_map.1 hz; exact Nat.lt_of_le_of_lt (Nat.mod_le _ _) (H64.out u hu))).mono ?_
                              rw [show packsAny (plow us W) (W : Int) = (bpack (plow us W) W, 0) by rw [packsAny_in _ _ (by omega), packs_ok (fun z hz => by obtain ⟨u, hu, rfl⟩ := List.mem_map.1 hz; exact Nat.mod_lt _ (Nat.two_pow_pos W))]]
                              rintro e w10 ⟨xv, rfl, hxv, hb10⟩
                              have HXV := Lib.hid hxv
                              have HOUT10 := Lib.hid (own_below HOUT8.out hb10)
                              have HG10 := Lib.hid (HG8.out.below hb10)
                              have HP10 := Lib.hid (HP8.out.below hb10)
                              have HB10 := Lib.hid (HB8.out.trans (hb10.mono HB8.out.size))
                              clear hxv hb10
                              generalize wr = wq at *
                              have hst2 : PRowRel (pboth ps P) w10 (.slice (some ⟨w10.heap.size, 0, none⟩) 0 0) (.int .i64 0) (w10.alloc (.cells #[] 53)) := ⟨0, by omega, rfl, own_made w10 _, (Below.refl _ _).alloc (Nat.le_refl _) _⟩
                              have HST2 := Lib.hid hst2
                              clear hst2
                              have HLB := Lib.hid (show (pboth ps P).length = ng by rw [pboth, List.length_map]; exact HNG.out)
                              go_wp2
                              go_loopw [24, 25] (PRowRel (pboth ps P) w10) (fun _ i _ => ng - (intOf i).toNat)
                              case atStart => exact HST2.out
                              case round =>
                                obtain ⟨k, hk, rfl, hboth, hbr⟩ := hrel
                                have HSTT2 := HST2
                                clear HST2
                                have hk' : k ≤ ng := by have := HLB.out; omega
                                have hz := hbr.size
                                by_cases hlt : k < ng
                                · have hkp : k < ps.length := by have := HNG.out; omega
                                  have hlti : (k : Int) < (ng : Int) := by omega
                                  obtain ⟨adg, hAd, hadg, hcg⟩ := HG10.out.at (k := k) (by rw [pgaps, List.length_map]; exact hkp)
                                  subst hAd
                                  obtain ⟨Ap, np, cp, hpv⟩ := HP10.out.shape
                                  have hnp := HP10.out
                                  rw [hpv] at hnp
                                  obtain ⟨adp, hAd, hadp, hcp⟩ := hnp.at (k := k) (by rw [ppats, List.length_map]; exact hkp)
                                  have hnpl := hnp.parts.1
                                  rw [ppats, List.length_map] at hnpl
                                  subst hAd hpv
                                  obtain ⟨x, hx⟩ : ∃ x, x = ps[k].1 := ⟨_, rfl⟩
                                  obtain ⟨y, hy⟩ : ∃ y, y = ps[k].2 := ⟨_, rfl⟩
                                  have hcx : wr.cell? (adg.add k) = some (.int .i64 (x : Int)) := by rw [hbr.cell (by rw [add_block]; exact hadg), hcg, hx]; simp [pgaps, iv]
                                  have hcy : wr.cell? (adp.add k) = some (.int .u64 (y : Int)) := by rw [hbr.cell (by rw [add_block]; exact hadp), hcp, hy]; simp [ppats, uv]
                                  have hxy := HQ2.out _ (List.getElem_mem hkp)
                                  rw [← hx, ← hy, HGG.out, HPP.out] at hxy
                                  have hx8 : x ≤ 255 := by rw [hx]; exact (HQ.out _ (List.getElem_mem hkp)).1
                                  obtain ⟨S, hS⟩ : ∃ S, S = x * 2 ^ P := ⟨_, rfl⟩
                                  obtain ⟨Z, hZ⟩ : ∃ Z, Z = S + y := ⟨_, rfl⟩
                                  have hZ64 : Z < 18446744073709551616 := by
                                    have h1 : (x + 1) * 2 ^ P ≤ 2 ^ G * 2 ^ P := Nat.mul_le_mul_right _ hxy.1
                                    rw [← Nat.pow_add, Nat.add_mul] at h1
                                    have h2 : 2 ^ (G + P) ≤ 2 ^ 64 := Nat.pow_le_pow_right (by omega) (by omega)
                                    have h3 : (2 : Nat) ^ 64 = 18446744073709551616 := by decide
                                    omega
                                  have hSc : (x : Int) * 2 ^ P = (S : Int) := by rw [hS]; simp
                                  have hxw : IntKind.u64.wrap (x : Int) = (x : Int) := by rw [IntKind.wrap_u64]; omega
                                  have hSw : IntKind.u64.wrap (S : Int) = (S : Int) := by rw [IntKind.wrap_u64]; omega
                                  have hZi : (S : Int) + (y : Int) = (Z : Int) := by omega
                                  have hZw : IntKind.u64.wrap (Z : Int) = (Z : Int) := by rw [IntKind.wrap_u64]; omega
                                  have HZ : Hid ((pboth ps P).take (k + 1) = (pboth ps P).take k ++ [Z]) := Lib.hid (by rw [List.take_succ_eq_append_getElem (by rw [pboth, List.length_map]; exact hkp)]; congr 2; rw [hZ, hS, hx, hy]; simp [pboth])
                                  have hknp : (k : Int) < (np : Int) := by omega
                                  have hnp0 : 0 ≤ np := Nat.zero_le _
                                  clear hcg hcp hx hy hxy hS hZ hZ64 hnp hnpl
                                  have HCX := Lib.hid hcx
                                  have HCY := Lib.hid hcy
                                  have HADX := Lib.hid (show adg.block < wr.heap.size from Nat.lt_of_lt_of_le hadg hbr.size)
                                  have HADY := Lib.hid (show adp.block < wr.heap.size from Nat.lt_of_lt_of_le hadp hbr.size)
                                  have HBOO := Lib.hid hboth
                                  have HBRR := Lib.hid hbr
                                  clear hcx hcy hboth hbr hz hadg hadp
                                  go_wp2
                                  refine wp_region_list_tail 14 [.is (u24), .is (.slice (some adg) ng cg), .is (.int .i64 (k : Int)), .is (.pointer (some (adg.add k))), .is (.int .i64 (x : Int)), .is (.int .u64 (x : Int)), .is (.int .i64 (P : Int)), .is (.int .u64 (S : Int)), .is (.slice (some adp) np cp), .is (.int .i64 (k : Int)), .is (.pointer (some (adp.add k))), .is (.int .u64 (y : Int)), .is (.int .u64 (Z : Int)), .vals uv [Z]] [some 160, some 161, some 162, some 163, some 164, some 165, some 166, some 167, some 168, some 169, some 170, some 171, some 172, some 173] (by kernel_rfl) (by kernel_rfl) (by kernel_rfl) (by kernel_rfl) rfl ⟨?_, ?_, ?_, ?_, ?_, ?_, ?_, ?_, ?_, ?_, ?_, ?_, ?_, ?_, trivial⟩ ?_
                                  · intro ρ W1 hb1 H
                                    exact gives_move rfl (H.old 24 _ (by kernel_rfl) rfl) ⟨rfl, Below.refl _ _⟩
                                  · intro ρ W1 hb1 H
                                    exact gives_move rfl (H.old 13 _ (by kernel_rfl) rfl) ⟨rfl, Below.refl _ _⟩
                                  · intro ρ W1 hb1 H
                                    exact gives_move rfl (H.old 25 _ (by kernel_rfl) rfl) ⟨rfl, Below.refl _ _⟩
                                  · intro ρ W1 hb1 H
                                    exact gives_index (k := k) elemI rfl (H.new 161 1 (by kernel_rfl)) (H.new 162 2 (by kernel_rfl)) hlt ⟨rfl, Below.refl _ _⟩
                                  · intro ρ W1 hb1 H
                                    exact gives_load rfl (H.new 163 3 (by kernel_rfl)) Tryz.underlying3 rfl ((hb1.cell (by rw [add_block]; exact HADX.out)).trans HCX.out) ⟨rfl, Below.refl _ _⟩
                                  · intro ρ W1 hb1 H
                                    exact gives_conv rfl (H.new 164 4 (by kernel_rfl)) (by rw [Tryz.underlying3]; rfl) Tryz.underlying53 hxw ⟨rfl, Below.refl _ _⟩
                                  · intro ρ W1 hb1 H
                                    exact gives_move rfl (H.old 17 _ (by kernel_rfl) rfl) ⟨rfl, Below.refl _ _⟩
                                  · intro ρ W1 hb1 H
                                    exact gives_shl64 (k := P) rfl (H.new 165 5 (by kernel_rfl)) (H.new 166 6 (by kernel_rfl)) p64 (by rw [hSc]; exact hSw) ⟨rfl, Below.refl _ _⟩
                                  · intro ρ W1 hb1 H
                                    exact gives_move rfl (H.old 14 _ (by kernel_rfl) rfl) ⟨rfl, Below.refl _ _⟩
                                  · intro ρ W1 hb1 H
                                    exact gives_move rfl (H.old 25 _ (by kernel_rfl) rfl) ⟨rfl, Below.refl _ _⟩
                                  · intro ρ W1 hb1 H
                                    exact gives_index (k := k) elemU rfl (H.new 168 8 (by kernel_rfl)) (H.new 169 9 (by kernel_rfl)) (by omega) ⟨rfl, Below.refl _ _⟩
                                  · intro ρ W1 hb1 H
                                    exact gives_load rfl (H.new 170 10 (by kernel_rfl)) Tryz.underlying53 rfl ((hb1.cell (by rw [add_block]; exact HADY.out)).trans HCY.out) ⟨rfl, Below.refl _ _⟩
                                  · intro ρ W1 hb1 H
                                    exact gives_add64 rfl (H.new 167 7 (by kernel_rfl)) (H.new 171 11 (by kernel_rfl)) (by rw [hZi]; exact hZw) ⟨rfl, Below.refl _ _⟩
                                  · intro ρ W1 hb1 H
                                    exact gives_val (f := uv) elemU (a := Z) rfl (H.new 172 12 (by kernel_rfl)) rfl fun _ _ h hb => ⟨h, hb⟩
                                  · intro vs W1 hb1 hfs
                                    have f0 : vs 0 = (u24) := hfs 0 (by decide)
                                    have f1 : vs 1 = (.slice (some adg) ng cg) := hfs 1 (by decide)
                                    have f2 : vs 2 = (.int .i64 (k : Int)) := hfs 2 (by decide)
                                    have f3 : vs 3 = (.pointer (some (adg.add k))) := hfs 3 (by decide)
                                    have f4 : vs 4 = (.int .i64 (x : Int)) := hfs 4 (by decide)
                                    have f5 : vs 5 = (.int .u64 (x : Int)) := hfs 5 (by decide)
                                    have f6 : vs 6 = (.int .i64 (P : Int)) := hfs 6 (by decide)
                                    have f7 : vs 7 = (.int .u64 (S : Int)) := hfs 7 (by decide)
                                    have f8 : vs 8 = (.slice (some adp) np cp) := hfs 8 (by decide)
                                    have f9 : vs 9 = (.int .i64 (k : Int)) := hfs 9 (by decide)
                                    have f10 : vs 10 = (.pointer (some (adp.add k))) := hfs 10 (by decide)
                                    have f11 : vs 11 = (.int .u64 (y : Int)) := hfs 11 (by decide)
                                    have f12 : vs 12 = (.int .u64 (Z : Int)) := hfs 12 (by decide)
                                    have f13 : IsV uv [Z] (vs 13) W1 := hfs 13 (by decide)
                                    clear hfs
                                    simp only [putAll, Nat.zero_add, Nat.reduceAdd, List.drop_succ_cons, List.drop_zero]
                                    rw [f0, f1, f2, f3, f4, f5, f6, f7, f8, f9, f10, f11, f12]
                                    clear f0 f1 f2 f3 f4 f5 f6 f7 f8 f9 f10 f11 f12
                                    simp only [Act.put, List.setIfInBounds_toArray, List.set_cons_succ, List.set_cons_zero]
                                    have hown1 := own_below HBOO.out hb1
                                    have hB1 := HBRR.out.trans (hb1.mono HBRR.out.size)
                                    have hz1 := hB1.size
                                    obtain ⟨A9, n9, c9, e9⟩ := f13.shape
                                    rw [e9] at f13 ⊢
                                    obtain ⟨hn9, hA9, -, -, hl9⟩ := f13.parts
                                    have hn91 : n9 = 1 := by rw [← hn9]; rfl
                                    subst hn91
                                    clear e9 hn9 f13
                                    go_wp2_with (at_builtin; refine wpList_join elemU rfl _ _ rfl w10.heap.size _ _ _ _ _ _ ([Z].map uv) w10 rfl rfl hA9 (by simp) hl9 (by intro u hu; simp at hu; subst hu; rfl) hown1 hB1 hz1 (by omega) (by omega) ?_)
                                    intro v9 w9 hown9 hb9 _ _
                                    have hrel : PRowRel (pboth ps P) w10 v9 (.int .i64 ((k : Int) + 1)) w9 := ⟨k + 1, by have := HLB.out; omega, by rw [Int.natCast_add]; rfl, by rw [HZ.out, List.map_append, List.map_take]; exact hown9, hb9⟩
                                    have HREL := Lib.hid hrel
                                    have hki : IntKind.i64.wrap ((k : Int) + 1) = (k : Int) + 1 := by rw [IntKind.wrap_i64]; omega
                                    clear hown9 hb9 hrel hown1 hB1 hz1 hl9 hA9
                                    go_wp2
                                    go_roundw
                                    case rel => exact HREL.out
                                    case measure => simp [intOf]; omega
                                · obtain rfl : ng = k := by omega
                                  have hlti2 : ¬ (ng : Int) < (ng : Int) := by omega
                                  rw [List.take_of_length_le (by have := HLB.out; omega)] at hboth
                                  have HBO := Lib.hid (isU_own hboth)
                                  have HOUT12 := Lib.hid (own_below HOUT10.out hbr)
                                  have HXV12 := Lib.hid (IsB.below HXV.out hbr)
                                  have HB12 := Lib.hid (HB10.out.trans (hbr.mono HB10.out.size))
                                  clear hboth hbr hz
                                  have HCL2 := Lib.hid (fun X => rclosest_any (GP : Int) X)
                                  rw [HW2.out] at HCL2
                                  go_wp2_with (go_at_call 42; refine (HCL2.out _).mono ?_; rintro e w' ⟨rfl, rfl⟩)
                                  refine (rpack_isO (W2 : Int) HBO.out (by have := HLB.out; omega) (fun z hz => Nat.lt_of_lt_of_le (pboth_lt HQ3.out z hz) (Nat.pow_le_pow_right (by omega) (by omega)))).mono ?_
                                  rw [show packsAny (pboth ps P) (W2 : Int) = (bpack (pboth ps P) W2, 0) by rw [packsAny_in _ _ HW2b.out.1, packs_ok (fun z hz => Nat.lt_of_lt_of_le (pboth_lt HQ3.out z hz) (Nat.pow_le_pow_right (by omega) (by rw [← HGPN.out]; exact HW2b.out.2)))]]
                                  rintro e w13 ⟨yv, rfl, hyv, hb13⟩
                                  have HOUTW := Lib.hid HOUT12.out
                                  have hown13 := own_below HOUT12.out hb13
                                  have hb413 := HB12.out.trans (hb13.mono HB12.out.size)
                                  have hz13 := hb413.size
                                  obtain ⟨Ax, nx, cx, rfl⟩ := IsV.shape (f := bv) HXV12.out
                                  obtain ⟨hnx, hAx, -, -, hlx⟩ := IsV.parts (f := bv) (IsB.below HXV12.out hb13)
                                  have hnxb : nx ≤ 5000 := by rw [← hnx, bpack_len]; exact Nat.le_trans (bsize_small (by have := HLL.out; omega) (by omega)) (by omega)
                                  have HNX := Lib.hid (show ((bpack (plow us W) W).map bv).length = nx by rw [List.length_map]; exact hnx)
                                  have HYV := Lib.hid hyv
                                  have HB13 := Lib.hid hb413
                                  clear hyv hb13 hnx
                                  go_wp2_with (at_builtin; refine wpList_join elemB rfl _ _ rfl w4.heap.size _ _ _ _ _ _ ((bpack (plow us W) W).map bv) w4 rfl rfl hAx HNX.out hlx (bv_one _) hown13 hb413 hz13 (by omega) (by omega) ?_)
                                  intro v14 w14 hown14 hb14 hgr14 _
                                  have hz14 := hb14.size
                                  have hyv14 := own_fresh HOUTW.out HYV.out hgr14
                                  obtain ⟨Ay, cy, hvy, hncy, hcmy, -, hly, hlny⟩ := own_shape hyv14
                                  obtain ⟨ny, hny⟩ : ∃ ny, ny = (bpack (pboth ps P) W2).length := ⟨_, rfl⟩
                                  rw [← hny] at hvy hncy
                                  have hnyb : ny ≤ 5000 := by rw [hny, bpack_len]; exact Nat.le_trans (bsize_small (by have := HLB.out; omega) HW2b.out.1) (by omega)
                                  have hAy : Ay = none → ny = 0 := by
                                    intro h
                                    subst h
                                    rcases hly with hly | ⟨_, h, _⟩
                                    · have := congrArg List.length hly; rw [List.length_map] at this; rw [hny]; simpa using this
                                    · cases h
                                  have HNY := Lib.hid (show ((bpack (pboth ps P) W2).map bv).length = ny by rw [List.length_map, hny])
                                  subst hvy
                                  clear hny hlny hcmy hncy hyv14 hgr14 hown13 hb413 hz13 hlx hAx
                                  go_wp2_with (at_builtin; refine wpList_join elemB rfl _ _ rfl w4.heap.size _ _ _ _ _ _ ((bpack (pboth ps P) W2).map bv) w4 rfl rfl hAy HNY.out hly (bv_one _) hown14 hb14 hz14 (by omega) (by omega) ?_)
                                  intro v15 w15 hown15 hb15 _ _
                                  have HO15 : Hid (IsB (play base us W) v15 w15) := Lib.hid (by
                                    unfold play
                                    rw [HPS.out, HXY.out, HPP.out, HGG.out, ← HGPN.out, ← HW2E.out, show us.length = n from HUL.out, ← HCWD.out]
                                    refine isB_own (n := 4 + nb + nx + ny) (base := w4.heap.size) (e := 5) ?_
                                    simpa only [List.map_append, List.map_cons, List.map_nil, List.append_assoc, List.cons_append, List.nil_append] using hown15)
                                  have HB15 := Lib.hid (below_then HB.out hb15)
                                  clear hown15 hb15 hown14 hb14 hz14 hly hAy
                                  go_wp2
                                  go_ret2
                                  rw [hE.out]
                                  exact ⟨_, rfl, HO15.out, HB15.out⟩
end Go.Proofs.YtnbiopihcbnkpaaGreatDoor

/- Contracts of layer 11's reference: Run and Put. -/





namespace Go.Proofs.YtnbiopihcbnkpaaGreatDoor

open Go.RowKit

theorem fold_snoc11 (L : List (List UInt8 × Int)) (f : Nat → List UInt8 × Int) (k : Nat) : (L ++ (List.range (k + 1)).map f).foldl ushorter [] = ushorter ((L ++ (List.range k).map f).foldl ushorter []) (f k) := by
  rw [List.range_succ, List.map_append, ← List.append_assoc, List.foldl_append]
  rfl
def URunRel (L : List (List UInt8 × Int)) (f : Nat → List UInt8 × Int) (w : World) (v i : Value) (wr : World) : Prop :=
  ∃ k : Nat, k ≤ 31 ∧ i = .int .i64 (k : Int) ∧ IsB ((L ++ (List.range k).map f).foldl ushorter []) v wr ∧ Below w.heap.size w wr
set_option maxHeartbeats 4000000 in
set_option maxRecDepth 100000 in
theorem rrun11_any (l : List Int) (v : Value) (s : Bool) (w : World) (hv : IsV iv l v w) (hl : ∀ x ∈ l, inInt x) (hb : l.length ≤ 1000000) :
    Calls Tryz.prog 10 #[v, .bool s] w (RetE w (urunE l s)) := by
  have HP := Lib.hid (rplain8_any l v s w hv hl hb)
  have HV := Lib.hid hv
  have HI := Lib.hid hl
  have HL6 := Lib.hid hb
  obtain ⟨A, n, c, rfl⟩ := hv.shape
  have HN := Lib.hid hv.parts.1
  have hn6 : n ≤ 1000000 := by have := HN.out; omega
  clear hv hl hb
  by_cases hp : dplain l s = none
  · have hE := Lib.hid (urunE_no (.inl hp))
    rw [show dplainE l s = ([], 1) by unfold dplainE; rw [hp]] at HP
    clear hp
    go_enter Tryz.func10, Tryz.ntmps10
    go_wp2_with fail
    refine HP.out.mono ?_
    rintro e w1 ⟨u, rfl, hu, hb1⟩
    have HB := Lib.hid hb1
    clear hu hb1
    go_wp2
    go_ret2
    rw [hE.out]
    exact RetE.nil _ HB.out
  · obtain ⟨us, hus⟩ : ∃ us, dplainE l s = (us, 0) := by
      cases h : dplain l s with
      | none => exact absurd h hp
      | some us => exact ⟨us, by unfold dplainE; rw [h]⟩
    rw [hus] at HP
    have HPN := Lib.hid hp
    clear hp hus
    by_cases h1 : n < 1
    · have hE := Lib.hid (urunE_no (l := l) (s := s) (.inr (.inl (by rw [HN.out]; exact h1))))
      have d1 : decide ((n : Int) < 1) = true := decide_eq_true (by omega)
      go_enter Tryz.func10, Tryz.ntmps10
      go_wp2_with fail
      refine HP.out.mono ?_
      rintro e w1 ⟨u, rfl, hu, hb1⟩
      have HB := Lib.hid hb1
      clear hu hb1
      go_wp2
      go_ret2
      rw [hE.out]
      exact RetE.nil _ HB.out
    · have d1 : decide ((n : Int) < 1) = false := decide_eq_false (by omega)
      by_cases h5 : 512 < n
      · have hE := Lib.hid (urunE_no (l := l) (s := s) (.inr (.inr (by rw [HN.out]; exact h5))))
        have d2 : decide ((512 : Int) < (n : Int)) = true := decide_eq_true (by omega)
        go_enter Tryz.func10, Tryz.ntmps10
        go_wp2_with fail
        refine HP.out.mono ?_
        rintro e w1 ⟨u, rfl, hu, hb1⟩
        have HB := Lib.hid hb1
        clear hu hb1
        go_wp2
        go_ret2
        rw [hE.out]
        exact RetE.nil _ HB.out
      · have d2 : decide ((512 : Int) < (n : Int)) = false := decide_eq_false (by omega)
        have HE : Hid (urunE l s = ((ucands0 l s ++ (List.range 31).map fun c : Nat => pputE l (wof (c : Int)) s).foldl ushorter [], 0)) := Lib.hid (urunE_in HPN.out (by rw [HN.out]; omega) (by rw [HN.out]; omega))
        obtain ⟨u, hu⟩ : ∃ u, u = usame l := ⟨_, rfl⟩
        have HU := Lib.hid hu
        clear hu
        go_enter Tryz.func10, Tryz.ntmps10
        go_wp2_with fail
        refine HP.out.mono ?_
        rintro e w1 ⟨u1, rfl, _, hb1⟩
        have hbA : Below w1.heap.size w1 (w1.alloc (.cells #[] 5)) := (Below.refl _ _).alloc (Nat.le_refl _) _
        have HB := Lib.hid (below_then hb1 hbA)
        have HV0 := HV
        have HV := Lib.hid ((HV.out.below hb1).below hbA)
        have HACC : Hid (IsB [] (.slice (some ⟨w1.heap.size, 0, none⟩) 0 0) (w1.alloc (.cells #[] 5))) := Lib.hid (isB_own (own_made w1 5))
        clear hb1 hbA
        go_wp2_with fail
        refine (rsame11_any l _ _ HV.out HL6.out).mono ?_
        rw [← HU.out]
        rintro e w2 ⟨rfl, hb2⟩
        have HV := Lib.hid (HV.out.below hb2)
        have HACC := Lib.hid (IsB.below HACC.out hb2)
        have HB := Lib.hid (below_then HB.out hb2)
        clear hb2
        by_cases hun : u = n
        · have d3 : ((u : Int) == (n : Int)) = true := by rw [hun]; simp
          have hkl : 0 < l.length := by rw [HN.out]; omega
          have hn0 : (0 : Int) < (n : Int) := by omega
          obtain ⟨ad, rfl, had, hcell⟩ := HV.out.at hkl
          obtain ⟨x0, hx0⟩ : ∃ x, x = l[0] := ⟨_, rfl⟩
          have hc0 : w2.cell? ad = some (.int .i64 x0) := by
            have h1 : ad.add 0 = ad := by unfold Addr.add; split <;> simp_all
            rw [← h1, hcell, hx0]; rfl
          have HX := Lib.hid (show inInt x0 by rw [hx0]; exact HI.out _ (List.getElem_mem hkl))
          have HC0 : Hid ((ucands0 l s ++ (List.range 0).map fun c : Nat => pputE l (wof (c : Int)) s).foldl ushorter [] = ushorter (ushorter (ushorter [] (eput x0 (n : Int) s)) (dputE l s)) (gputE l s)) := Lib.hid (by
            have h2 : l.headD 0 = x0 := by rw [hx0]; cases l with | nil => simp at hkl | cons y t => rfl
            unfold ucands0
            rw [if_pos (by rw [← HU.out, HN.out]; exact hun), h2, HN.out]
            rfl)
          clear hcell hx0 hkl had
          go_wp2_with fail
          refine (rput7_any x0 (n : Int) s _ HX.out.1 HX.out.2).mono ?_
          rintro e wb3 ⟨b3, rfl, hbb3, hbw3⟩
          have HV := Lib.hid (HV.out.below hbw3)
          have HACC := Lib.hid (IsB.below HACC.out hbw3)
          have HB := Lib.hid (below_then HB.out hbw3)
          have HBB := Lib.hid hbb3
          clear hbb3 hbw3
          go_wp2_with fail
          refine (rshorter_any _ _ _ _ _ _ HACC.out HBB.out).mono ?_
          rintro e w' ⟨⟨va3, rfl, hva3⟩, rfl⟩
          have HACC : Hid (IsB (ushorter ([]) (eput x0 (n : Int) s)) va3 wb3) := Lib.hid hva3
          clear hva3 HBB
          go_wp2_with fail
          refine (rput8_any l _ s _ HV.out HI.out HL6.out).mono ?_
          rintro e wb4 ⟨b4, rfl, hbb4, hbw4⟩
          have HV := Lib.hid (HV.out.below hbw4)
          have HACC := Lib.hid (IsB.below HACC.out hbw4)
          have HB := Lib.hid (below_then HB.out hbw4)
          have HBB := Lib.hid hbb4
          clear hbb4 hbw4
          go_wp2_with fail
          refine (rshorter_any _ _ _ _ _ _ HACC.out HBB.out).mono ?_
          rintro e w' ⟨⟨va4, rfl, hva4⟩, rfl⟩
          have HACC : Hid (IsB (ushorter (ushorter [] (eput x0 (n : Int) s)) (dputE l s)) va4 wb4) := Lib.hid hva4
          clear hva4 HBB
          go_wp2_with fail
          refine (rput9_any l _ s _ HV.out HI.out HL6.out).mono ?_
          rintro e wb5 ⟨b5, rfl, hbb5, hbw5⟩
          have HV := Lib.hid (HV.out.below hbw5)
          have HACC := Lib.hid (IsB.below HACC.out hbw5)
          have HB := Lib.hid (below_then HB.out hbw5)
          have HBB := Lib.hid hbb5
          clear hbb5 hbw5
          go_wp2_with fail
          refine (rshorter_any _ _ _ _ _ _ HACC.out HBB.out).mono ?_
          rintro e w' ⟨⟨va5, rfl, hva5⟩, rfl⟩
          have HACC : Hid (IsB (ushorter (ushorter (ushorter [] (eput x0 (n : Int) s)) (dputE l s)) (gputE l s)) va5 wb5) := Lib.hid hva5
          clear hva5 HBB
          have h0st : URunRel (ucands0 l s) (fun c : Nat => pputE l (wof (c : Int)) s) w va5 (.int .i64 0) wb5 := ⟨0, by omega, rfl, by rw [HC0.out]; exact HACC.out, HB.out⟩
          have HST := Lib.hid h0st
          clear h0st HACC
          go_wp2
          go_loopw [8, 12] (URunRel (ucands0 l s) (fun c : Nat => pputE l (wof (c : Int)) s) w) (fun _ i _ => 31 - (intOf i).toNat)
          case atStart => exact HST.out
          case round =>
            obtain ⟨k, hk, rfl, hacc, hbw⟩ := hrel
            have HSTT := HST
            clear HST
            have HACC := Lib.hid hacc
            have HB := Lib.hid hbw
            have HV := Lib.hid (HV0.out.below hbw)
            clear hacc hbw
            by_cases hlt : k < 31
            · have hlti : (k : Int) < 31 := by omega
              obtain ⟨W, hW⟩ := wof_nat k
              have HOF := Lib.hid (fun X => rof_any (k : Int) X (by omega) (by omega))
              rw [hW] at HOF
              have HFS := Lib.hid (fold_snoc11 (ucands0 l s) (fun c : Nat => pputE l (wof (c : Int)) s) k)
              have HWK := Lib.hid hW
              clear hW
              go_wp2_with (go_at_call 28; refine (HOF.out _).mono ?_; rintro e w' ⟨rfl, rfl⟩)
              refine (rput10_any l _ (W : Int) s _ HV.out HI.out HL6.out).mono ?_
              rintro e wb ⟨b, rfl, hbb, hbw⟩
              have HACC := Lib.hid (IsB.below HACC.out hbw)
              have HB := Lib.hid (below_then HB.out hbw)
              have HBB := Lib.hid hbb
              clear hbb hbw
              go_wp2_with fail
              refine (rshorter_any _ _ _ _ _ _ HACC.out HBB.out).mono ?_
              rintro e w' ⟨⟨va, rfl, hva⟩, rfl⟩
              have HREL : Hid (URunRel (ucands0 l s) (fun c : Nat => pputE l (wof (c : Int)) s) w va (.int .i64 ((k : Int) + 1)) wb) := Lib.hid ⟨k + 1, by omega, by go_num, by rw [HFS.out, HWK.out]; exact hva, HB.out⟩
              clear hva
              go_wp2
              go_roundw
              case rel => exact HREL.out
              case measure => simp [intOf]; omega
            · obtain rfl : k = 31 := by omega
              go_wp2
              go_ret2
              rw [HE.out]
              exact ⟨_, rfl, HACC.out, HB.out⟩
        · have d3 : ((u : Int) == (n : Int)) = false := by simp; omega
          have HC0 : Hid ((ucands0 l s ++ (List.range 0).map fun c : Nat => pputE l (wof (c : Int)) s).foldl ushorter [] = ushorter (ushorter [] (dputE l s)) (gputE l s)) := Lib.hid (by
            unfold ucands0
            rw [if_neg (by rw [← HU.out, HN.out]; exact hun)]
            rfl)
          go_wp2_with fail
          refine (rput8_any l _ s _ HV.out HI.out HL6.out).mono ?_
          rintro e wb4 ⟨b4, rfl, hbb4, hbw4⟩
          have HV := Lib.hid (HV.out.below hbw4)
          have HACC := Lib.hid (IsB.below HACC.out hbw4)
          have HB := Lib.hid (below_then HB.out hbw4)
          have HBB := Lib.hid hbb4
          clear hbb4 hbw4
          go_wp2_with fail
          refine (rshorter_any _ _ _ _ _ _ HACC.out HBB.out).mono ?_
          rintro e w' ⟨⟨va4, rfl, hva4⟩, rfl⟩
          have HACC : Hid (IsB (ushorter ([]) (dputE l s)) va4 wb4) := Lib.hid hva4
          clear hva4 HBB
          go_wp2_with fail
          refine (rput9_any l _ s _ HV.out HI.out HL6.out).mono ?_
          rintro e wb5 ⟨b5, rfl, hbb5, hbw5⟩
          have HV := Lib.hid (HV.out.below hbw5)
          have HACC := Lib.hid (IsB.below HACC.out hbw5)
          have HB := Lib.hid (below_then HB.out hbw5)
          have HBB := Lib.hid hbb5
          clear hbb5 hbw5
          go_wp2_with fail
          refine (rshorter_any _ _ _ _ _ _ HACC.out HBB.out).mono ?_
          rintro e w' ⟨⟨va5, rfl, hva5⟩, rfl⟩
          have HACC : Hid (IsB (ushorter (ushorter ([]) (dputE l s)) (gputE l s)) va5 wb5) := Lib.hid hva5
          clear hva5 HBB
          have h0st : URunRel (ucands0 l s) (fun c : Nat => pputE l (wof (c : Int)) s) w va5 (.int .i64 0) wb5 := ⟨0, by omega, rfl, by rw [HC0.out]; exact HACC.out, HB.out⟩
          have HST := Lib.hid h0st
          clear h0st HACC
          go_wp2
          go_loopw [8, 12] (URunRel (ucands0 l s) (fun c : Nat => pputE l (wof (c : Int)) s) w) (fun _ i _ => 31 - (intOf i).toNat)
          case atStart => exact HST.out
          case round =>
            obtain ⟨k, hk, rfl, hacc, hbw⟩ := hrel
            have HSTT := HST
            clear HST
            have HACC := Lib.hid hacc
            have HB := Lib.hid hbw
            have HV := Lib.hid (HV0.out.below hbw)
            clear hacc hbw
            by_cases hlt : k < 31
            · have hlti : (k : Int) < 31 := by omega
              obtain ⟨W, hW⟩ := wof_nat k
              have HOF := Lib.hid (fun X => rof_any (k : Int) X (by omega) (by omega))
              rw [hW] at HOF
              have HFS := Lib.hid (fold_snoc11 (ucands0 l s) (fun c : Nat => pputE l (wof (c : Int)) s) k)
              have HWK := Lib.hid hW
              clear hW
              go_wp2_with (go_at_call 28; refine (HOF.out _).mono ?_; rintro e w' ⟨rfl, rfl⟩)
              refine (rput10_any l _ (W : Int) s _ HV.out HI.out HL6.out).mono ?_
              rintro e wb ⟨b, rfl, hbb, hbw⟩
              have HACC := Lib.hid (IsB.below HACC.out hbw)
              have HB := Lib.hid (below_then HB.out hbw)
              have HBB := Lib.hid hbb
              clear hbb hbw
              go_wp2_with fail
              refine (rshorter_any _ _ _ _ _ _ HACC.out HBB.out).mono ?_
              rintro e w' ⟨⟨va, rfl, hva⟩, rfl⟩
              have HREL : Hid (URunRel (ucands0 l s) (fun c : Nat => pputE l (wof (c : Int)) s) w va (.int .i64 ((k : Int) + 1)) wb) := Lib.hid ⟨k + 1, by omega, by go_num, by rw [HFS.out, HWK.out]; exact hva, HB.out⟩
              clear hva
              go_wp2
              go_roundw
              case rel => exact HREL.out
              case measure => simp [intOf]; omega
            · obtain rfl : k = 31 := by omega
              go_wp2
              go_ret2
              rw [HE.out]
              exact ⟨_, rfl, HACC.out, HB.out⟩

/-- What was laid down, and what comes behind it. -/
def ucomb (out : List UInt8) (p : List UInt8 × Int) : List UInt8 × Int := if p.2 ≠ 0 then ([], p.2) else (out ++ p.1, 0)
theorem ucomb_done (out : List UInt8) (s : Bool) {k : Nat} {l : List Int} (h : l.length = 0) : ucomb out (uputN s k l) = (out, 0) := by
  cases k with
  | zero => simp [uputN, ucomb]
  | succ k => rw [uputN, if_pos h]; simp [ucomb]
theorem ucomb_bad (out : List UInt8) (s : Bool) {k : Nat} {l : List Int} (h : l.length ≠ 0) (he : (urunE (l.take (ucut l)) s).2 ≠ 0) : ucomb out (uputN s (k + 1) l) = ([], (urunE (l.take (ucut l)) s).2) := by
  rw [uputN, if_neg h, if_pos he]
  exact if_pos he
theorem ucomb_step (out : List UInt8) (s : Bool) {k : Nat} {l : List Int} (h : l.length ≠ 0) (he : (urunE (l.take (ucut l)) s).2 = 0) : ucomb out (uputN s (k + 1) l) = ucomb (out ++ (urunE (l.take (ucut l)) s).1) (uputN s k (l.drop (ucut l))) := by
  rw [uputN, if_neg h, if_neg (by rw [he]; simp)]
  unfold ucomb
  by_cases h2 : (uputN s k (l.drop (ucut l))).2 ≠ 0
  · rw [if_pos h2, if_pos h2, if_pos h2]
  · rw [if_neg h2, if_neg h2, if_neg (by simp)]
    simp
def lenOf (v : Value) : Nat := match v with | .slice _ n _ => n | _ => 0
theorem urun_len {l : List Int} {s : Bool} (hl : ∀ x ∈ l, inInt x) (h5 : l.length ≤ 512) : (urunE l s).1.length ≤ 5000 := by
  by_cases h2 : dplain l s = none ∨ l.length < 1 ∨ 512 < l.length
  · rw [urunE_no h2]; simp
  · have := (urun_back (r := []) hl (fun h3 => h2 (.inl h3)) (Nat.not_lt.1 fun h3 => h2 (.inr (.inl h3))) h5).2.2.2
    omega
def UPutRel (res : List UInt8 × Int) (s : Bool) (w : World) (lv ov : Value) (wr : World) : Prop :=
  ∃ (k : Nat) (rest : List Int) (out : List UInt8), rest.length ≤ k ∧ rest.length ≤ 4096 ∧ out.length + 10 * rest.length ≤ 50000 ∧ (∀ x ∈ rest, inInt x) ∧ IsV iv rest lv w ∧ ucomb out (uputN s k rest) = res ∧ wr.ownsRow w.heap.size 5 1 ov out.length (out.map bv) ∧ Below w.heap.size w wr
set_option maxHeartbeats 4000000 in
set_option maxRecDepth 100000 in
theorem rput11_own (l : List Int) (v : Value) (s : Bool) (w : World) (hv : IsV iv l v w) (hl : ∀ x ∈ l, inInt x) :
    Calls Tryz.prog 14 #[v, .bool s] w (RetEO w (uputE l s)) := by
  have HV := Lib.hid hv
  have HI := Lib.hid hl
  obtain ⟨A, n, c, rfl⟩ := hv.shape
  have HN := Lib.hid hv.parts.1
  clear hv hl
  by_cases hbig : 4096 < n
  · have d1 : (4096 : Int) < (n : Int) := by omega
    have hE : Hid (uputE l s = ([], 3)) := Lib.hid (by unfold uputE; rw [if_pos (by rw [HN.out]; exact hbig)])
    go_enter Tryz.func14, Tryz.ntmps14
    go_wp2
    go_ret2
    rw [hE.out]
    exact RetEO.nil _ (Below.refl _ _)
  · have d1 : ¬ (4096 : Int) < (n : Int) := by omega
    have hE : Hid (uputE l s = ucomb [] (uputN s l.length l)) := Lib.hid (by
      unfold uputE ucomb
      rw [if_neg (by rw [HN.out]; exact hbig)]
      by_cases h : (uputN s l.length l).2 ≠ 0
      · rw [if_pos h]
        have h2 : ∀ (k : Nat) (l : List Int), (uputN s k l).2 ≠ 0 → (uputN s k l).1 = [] := by
          intro k
          induction k with
          | zero => intro l h; exact absurd rfl h
          | succ k ih =>
            intro l h
            rw [uputN] at h ⊢
            split
            · rfl
            · split
              · rfl
              · split
                · rfl
                · rename_i h3 h4 h5
                  rw [if_neg h3, if_neg h4, if_neg h5] at h
                  exact absurd rfl h
        exact Prod.ext (h2 _ _ h) rfl
      · rw [if_neg h]
        exact Prod.ext rfl (Decidable.not_not.1 h))
    have hst : UPutRel (uputE l s) s w (.slice A n c) (.slice (some ⟨w.heap.size, 0, none⟩) 0 0) (w.alloc (.cells #[] 5)) :=
      ⟨l.length, l, [], Nat.le_refl _, by have := HN.out; omega, by have := HN.out; simp; omega, HI.out, HV.out, hE.out.symm, own_made w _, (Below.refl _ _).alloc (Nat.le_refl _) _⟩
    have HST := Lib.hid hst
    clear hst
    go_enter Tryz.func14, Tryz.ntmps14
    go_wp2
    go_loopw [0, 6] (UPutRel (uputE l s) s w) (fun x _ _ => lenOf x)
    case atStart => exact HST.out
    case round =>
      obtain ⟨k, rest, out, hk, h4, hol, hin, hrv, hres, hown, hbw⟩ := hrel
      have HSTT := HST
      clear HST
      have HIN := Lib.hid hin
      have HRV := Lib.hid hrv
      have HRES := Lib.hid hres
      have HOWN := Lib.hid hown
      have HBW := Lib.hid hbw
      obtain ⟨A2, n2, c2, rfl⟩ := hrv.shape
      have HN2 := Lib.hid hrv.parts.1
      have hnc2 : n2 ≤ c2 := hrv.parts.2.2.1
      have hci2 : (c2 : Int) ≤ 9223372036854775807 := by have := hrv.parts.2.2.2.1; unfold maxLen at this; omega
      have hn2k : n2 ≤ k := by have := HN2.out; omega
      have hn24 : n2 ≤ 4096 := by have := HN2.out; omega
      have hol2 : out.length + 10 * n2 ≤ 50000 := by have := HN2.out; omega
      obtain ⟨ol, hol3⟩ : ∃ ol, ol = out.length := ⟨_, rfl⟩
      have HOL := Lib.hid hol3
      clear hin hrv hres hown hbw hk h4 hol
      by_cases h0 : n2 = 0
      · subst h0
        have hR : Hid (uputE l s = (out, 0)) := Lib.hid (by rw [← HRES.out]; exact ucomb_done out s HN2.out)
        clear hol3
        go_wp2
        go_ret2
        rw [hR.out]
        exact ⟨_, rfl, HOWN.out, HBW.out⟩
      · have d2 : decide (0 < n2) = true := decide_eq_true (by omega)
        have hn0i : (0 : Int) < (n2 : Int) := by omega
        obtain ⟨m, hm⟩ : ∃ m, m = ucut rest := ⟨_, rfl⟩
        obtain ⟨m1, m2, m3⟩ := ucut_bd (l := rest) (by have := HN2.out; omega)
        rw [← hm] at m1 m2 m3
        have hmn : m ≤ n2 := by have := HN2.out; omega
        have hmc : (m : Int) ≤ (c2 : Int) := by omega
        obtain ⟨k', rfl⟩ : ∃ k', k = k' + 1 := ⟨k - 1, by omega⟩
        have HCU := Lib.hid (rcut11_any rest _ wr (HRV.out.below HBW.out) (by have := HN2.out; omega))
        rw [← hm] at HCU
        have HM := Lib.hid hm
        have htl : (rest.take m).length = m := by rw [List.length_take]; have := HN2.out; omega
        have HTL := Lib.hid htl
        have HTI : Hid (∀ x ∈ rest.take m, inInt x) := Lib.hid (fun x hx => HIN.out x (List.mem_of_mem_take hx))
        obtain ⟨rb, re, hr⟩ : ∃ rb re, urunE (rest.take m) s = (rb, re) := ⟨_, _, rfl⟩
        have HR := Lib.hid hr
        obtain ⟨v4, hv4, hI4⟩ := fromV_named (P := Tryz.prog) elemI (k := m) hmn HRV.out
        have HI4 := Lib.hid hI4
        clear hm htl hr hI4 m2
        go_wp2_with fail
        refine HCU.out.mono ?_
        rintro e w2 ⟨rfl, hb2⟩
        have HV2 := Lib.hid ((HRV.out.take hmn).below (HBW.out.trans (hb2.mono HBW.out.size)))
        have HO2 := Lib.hid (own_below HOWN.out hb2)
        have HB2 := Lib.hid (below_then HBW.out hb2)
        clear hb2
        have HRN := Lib.hid (rrun11_any (rest.take m) _ s w2 HV2.out HTI.out (by have := HTL.out; omega))
        rw [HR.out] at HRN
        go_wp2_with fail
        refine HRN.out.mono ?_
        rintro e w3 ⟨b3, rfl, hb3v, hb3⟩
        have HO3 := Lib.hid (own_below HO2.out hb3)
        have HB3 := Lib.hid (below_then HB2.out hb3)
        have HBV := Lib.hid hb3v
        clear hb3
        by_cases he : re = 0
        · subst he
          have hlen := urun_len (s := s) HTI.out (by rw [HTL.out]; exact m3)
          have hstep := ucomb_step (k := k') out s (l := rest) (by have := HN2.out; omega) (by rw [← HM.out, HR.out])
          rw [HRES.out, ← HM.out, HR.out] at hstep
          rw [HR.out] at hlen
          have hlen2 := (urun_back (r := []) (s := s) HTI.out (by
            intro h
            have h2 := HR.out
            rw [urunE_no (.inl h)] at h2
            injection h2 with _ h2
            cases h2) (by rw [HTL.out]; exact m1) (by rw [HTL.out]; exact m3)).2.2.2
          rw [HR.out, HTL.out] at hlen2
          dsimp only at hlen hstep hlen2
          obtain ⟨A5, n5, c5, rfl⟩ := IsV.shape (f := bv) hb3v
          obtain ⟨hn5, hA5, -, -, hl5⟩ := IsV.parts (f := bv) (show IsV bv rb _ _ from hb3v)
          have HM5 := Lib.hid (show (rb.map bv).length = n5 by rw [List.length_map]; exact hn5)
          have hn5b : n5 ≤ 5000 := by omega
          have hn510 : n5 ≤ 10 * m := by omega
          have hown3 := HO3.out
          rw [← hol3] at hown3
          have hbw3 := HB3.out
          have hz3 := hbw3.size
          have HSTEP := Lib.hid hstep
          have HN5 := Lib.hid hn5
          have hol4 : ol + 10 * n2 ≤ 50000 := by omega
          clear hb3v hlen hstep hlen2 hn5 hol3 hol2
          go_wp2_with (first | (refine wpList_slicedL rfl _ _ _ rfl _ (hv4 _) ?_) | (at_builtin; refine wpList_join elemB rfl _ _ rfl w.heap.size _ _ _ _ _ _ (rb.map bv) w rfl rfl hA5 HM5.out hl5 (bv_one _) hown3 hbw3 hz3 (by omega) (by omega) ?_))
          intro v6 w6 hown6 hb6 _ _
          have HREL : Hid (UPutRel (uputE l s) s w v4 v6 w6) := Lib.hid ⟨k', rest.drop m, out ++ rb, by rw [List.length_drop]; have := HN2.out; omega, by rw [List.length_drop]; have := HN2.out; omega,
            by rw [List.length_drop, List.length_append, HN5.out, ← HOL.out]; have := HN2.out; omega, fun x hx => HIN.out x (List.mem_of_mem_drop hx), HI4.out, HSTEP.out.symm,
            by rw [List.length_append, ← HOL.out, HN5.out, List.map_append]; exact hown6, hb6⟩
          clear hown6 hb6 hown3 hbw3 hz3 hl5 hA5
          go_wp2_with (refine wpList_slicedL rfl _ _ _ rfl _ (hv4 _) ?_)
          go_roundw
          case rel => exact HREL.out
          case measure =>
            obtain ⟨A7, c7, e7, _⟩ := HI4.out
            rw [e7]
            have := HN2.out
            simp [lenOf]
            omega
        · have hbad := ucomb_bad (k := k') out s (l := rest) (by have := HN2.out; omega) (by rw [← HM.out, HR.out]; exact he)
          rw [HRES.out, ← HM.out, HR.out] at hbad
          have HBD := Lib.hid hbad
          have d3 : (re != 0) = true := by simpa using he
          clear hb3v hbad
          obtain ⟨A5, n5, c5, rfl⟩ := IsV.shape (f := bv) HBV.out
          go_wp2
          go_ret2
          rw [HBD.out]
          exact RetEO.nil _ HB3.out
theorem rput11_any (l : List Int) (v : Value) (s : Bool) (w : World) (hv : IsV iv l v w) (hl : ∀ x ∈ l, inInt x) :
    Calls Tryz.prog 14 #[v, .bool s] w (RetE w (uputE l s)) := (rput11_own l v s w hv hl).mono fun _ _ h => h.e
end Go.Proofs.YtnbiopihcbnkpaaGreatDoor

/- repeat's own contracts, but Take's. -/







namespace Go.Proofs.YtnbiopihcbnkpaaGreatDoor

open Go.RowKit

theorem ebytes_or1 {u : Nat} (h : u < 2 ^ 64) : (wbits (u ||| 1) + 7) / 8 = ebytes u := by
  rw [wbits_or h (by decide), show wbits 1 = 1 from rfl]
  unfold ebytes
  omega
theorem esize_any (u : Nat) (w : World) (h : u < 2 ^ 64) :
    Calls Tryz.prog 134 #[.int .u64 (u : Int)] w fun e w' => e = .returned (.int .i64 (ebytes u : Int)) ∧ w = w' := by
  have hor := u64_or1 (u : Int) (by omega) (by omega)
  rw [Int.toNat_natCast] at hor
  obtain ⟨y, hy⟩ : ∃ y, y = u ||| 1 := ⟨_, rfl⟩
  have hy64 : y < 2 ^ 64 := by rw [hy]; exact Nat.or_lt_two_pow h (by decide)
  obtain ⟨b, hb⟩ : ∃ b, b = wbits y := ⟨_, rfl⟩
  have hb64 : b ≤ 64 := by rw [hb]; exact wbits_64 hy64
  have HE : Hid ((b + 7) / 8 = ebytes u) := Lib.hid (by rw [hb, hy]; exact ebytes_or1 h)
  have HB := Lib.hid (fun W => bits_any y W hy64)
  rw [← hb] at HB
  rw [← hy] at hor
  clear hy hb h hy64
  go_enter Tryz.func134, Tryz.ntmps134
  go_wp2_with (go_at_call 105; refine (HB.out _).mono ?_; rintro e w' ⟨rfl, rfl⟩)
  go_ret
  exact ⟨ret_int (by have := HE.out; omega), rfl⟩

/-- A number's bytes from the last to the first, in a loop. -/
def EDigRel (u n : Nat) (w : World) (i : Value) (wr : World) : Prop :=
  ∃ (k : Nat) (o : List UInt8), k ≤ n ∧ i = .int .i64 (k : Int) ∧ o.length = n ∧ o.drop (n - k) = be k u ∧ Row wr w.heap.size 5 (o.map bv) ∧ Below w.heap.size w wr
theorem edig_step {o : List UInt8} {n k j u z : Nat} (ho : o.length = n) (hj : n = j + k + 1) (hz : z = u / 256 ^ k % 256) (hd : o.drop (n - k) = be k u) : (o.set j (UInt8.ofNat z)).drop (n - (k + 1)) = be (k + 1) u := by
  rw [show n - (k + 1) = j by omega, List.drop_eq_getElem_cons (by rw [List.length_set]; omega), List.getElem_set_self, List.drop_set_of_lt (by omega), be, ← hz, ← hd, show n - k = j + 1 by omega]
set_option maxHeartbeats 1000000 in
theorem edigits_any (u : Nat) (w : World) (h : u < 2 ^ 64) :
    Calls Tryz.prog 101 #[.int .u64 (u : Int)] w fun e w' => ∃ v, e = .returned v ∧ IsB (be (ebytes u) u) v w' ∧ Below w.heap.size w w' := by
  obtain ⟨n, hn⟩ : ∃ n, n = ebytes u := ⟨_, rfl⟩
  have hn8 : n ≤ 8 := by rw [hn]; exact ebytes_8 h
  have HS := Lib.hid (fun W => esize_any u W h)
  rw [← hn] at HS ⊢
  have HU := Lib.hid h
  clear hn h
  go_enter Tryz.func101, Tryz.ntmps101
  go_wp2_with (first | (go_at_call 134; refine (HS.out _).mono ?_; rintro e w' ⟨rfl, rfl⟩) | (refine wpList_make elemB rfl _ _ rfl _ _ _ _ n w w.heap.size rfl rfl rfl rfl (by omega) (by omega) (Below.refl _ _) (Nat.le_refl _) ?_))
  intro w1 hr1 hb1
  have hst : EDigRel u n w (.int .i64 0) w1 := ⟨0, List.replicate n 0, by omega, rfl, by simp, by simp [be], by simpa using hr1, hb1⟩
  clear hr1 hb1
  go_wp2
  go_loopw [10] (EDigRel u n w) (fun i _ => n - (intOf i).toNat)
  case atStart => exact hst
  case round =>
    obtain ⟨k, o, hk, rfl, ho, hok, hr, hbr⟩ := hrel
    have HO := Lib.hid ho
    have HOK := Lib.hid hok
    clear ho hok hst
    by_cases hlt : k < n
    · have hlt2 : (k : Int) < (n : Int) := by omega
      obtain ⟨j, hj⟩ : ∃ j, n = j + k + 1 := ⟨n - 1 - k, by omega⟩
      have hji : (n : Int) - 1 - (k : Int) = (j : Int) := by omega
      have hjn : (j : Int) < (n : Int) := by omega
      have hjo : j < o.length := by have := HO.out; omega
      obtain ⟨d, hd⟩ : ∃ d, d = 8 * k := ⟨_, rfl⟩
      have hdi : 8 * (k : Int) = (d : Int) := by omega
      have hd64 : d ≤ 64 := by omega
      obtain ⟨y, hy⟩ : ∃ y, y = u / 256 ^ k := ⟨_, rfl⟩
      have hyi : (u : Int) / 2 ^ d = (y : Int) := by
        rw [hy, p256, ← hd]; simp
      obtain ⟨z, hz⟩ : ∃ z, z = y % 256 := ⟨_, rfl⟩
      have hz256 : z < 256 := by omega
      have hzw : IntKind.u8.wrap (y : Int) = (z : Int) := by rw [IntKind.wrap_u8]; omega
      have hzu : z = u / 256 ^ k % 256 := by rw [hz, hy]
      have HN := Lib.hid (edig_step HO.out hj hzu HOK.out)
      have hgr := hr.lt
      have hcx : wr.cell? ⟨w.heap.size, j, none⟩ = some (bv o[j]) := by rw [hr.cell, List.getElem?_map, List.getElem?_eq_getElem hjo]; rfl
      have hfx := hr.free j
      have hr2 := hr.set_ j (bv (UInt8.ofNat z))
      rw [← List.map_set, ← bv_low7 hz256] at hr2
      have HR2 := Lib.hid hr2
      have HBW := Lib.hid hbr
      clear hr2 hr hbr hj hd hy hz hzu
      go_wp2
      go_roundw
      case rel =>
        exact ⟨k + 1, o.set j (UInt8.ofNat z), by omega, by go_num, by rw [List.length_set]; exact HO.out, HN.out, HR2.out, HBW.out.setCell (Nat.le_refl _) _⟩
      case measure => simp [intOf]; omega
    · obtain rfl : k = n := by omega
      have hlt2 : ¬ (k : Int) < (k : Int) := by omega
      have hT : o = be k u := by
        have h1 := HOK.out
        rw [Nat.sub_self, List.drop_zero] at h1
        exact h1
      have HT := Lib.hid hT
      have HR := Lib.hid hr
      have HBR := Lib.hid hbr
      clear hT hr hbr
      go_wp2
      go_ret
      refine ⟨_, rfl, ?_, HBR.out⟩
      rw [← HT.out]
      exact isV_row HR.out HO.out (by omega)

/-- A repeat out of a number's bytes. -/
theorem elaid_any (T : Nat) (l : List UInt8) (v : Value) (w : World) (hv : IsB l v w) (h3 : 3 ≤ T) (h10 : T ≤ 10) (h1 : 1 ≤ l.length) (h8 : l.length ≤ 8) :
    Calls Tryz.prog 100 #[.int .i64 (T : Int), v] w (RetOwn w (UInt8.ofNat (8 * (l.length - 1) + (T - 3)) :: l)) := by
  obtain ⟨A, c, rfl, hA, hnc, hcm, hl⟩ := hv
  obtain ⟨n, hn⟩ : ∃ n, n = l.length := ⟨_, rfl⟩
  rw [← hn] at hA hnc h1 h8 ⊢
  obtain ⟨c0, hc0⟩ : ∃ c0, c0 = 8 * (n - 1) + (T - 3) := ⟨_, rfl⟩
  have hc64 : c0 < 64 := by omega
  rw [← hc0]
  have hci : 8 * ((n : Int) - 1) + (T : Int) - 3 = (c0 : Int) := by omega
  have hci2 : 8 * ((n : Int) - 1) + (T : Int) = (c0 : Int) + 3 := by omega
  have hc256 : c0 < 256 := by omega
  have hown := own_one w 5 (.int .u8 (c0 : Int)) (Nat.le_refl _)
  rw [bv_low7 hc256] at hown
  have hb1 : Below w.heap.size w (w.alloc (.cells #[bv (UInt8.ofNat c0)] 5)) := (Below.refl _ _).alloc (Nat.le_refl _) _
  have hz1 := hb1.size
  have hl1 := hl.below hb1
  have HN := Lib.hid hn
  clear hn hc0 hl hcm
  go_enter Tryz.func100, Tryz.ntmps100
  go_wp2_with (at_builtin; rw [bv_low7 hc256]; refine wpList_join elemB rfl _ _ rfl w.heap.size _ _ _ _ _ _ (l.map bv) w rfl rfl hA (by rw [List.length_map]; exact HN.out.symm) hl1 (bv_one l) hown hb1 hz1 (by omega) (by omega) ?_)
  intro v2 w2 hown2 hb2 _ _
  go_wp2
  go_ret
  refine ⟨v2, rfl, ?_, hb2⟩
  rw [List.length_cons, ← HN.out, Nat.add_comm n 1]
  exact hown2
theorem elay_any (u T : Nat) (v : Value) (w : World) (hu : u < 2 ^ 64) (hv : IsB (be (ebytes u) u) v w) (h3 : 3 ≤ T) (h10 : T ≤ 10) :
    Calls Tryz.prog 100 #[.int .i64 (T : Int), v] w (RetOwn w (elay u T)) := by
  have h := elaid_any T _ v w hv h3 h10 (by rw [be_len]; exact ebytes_pos u) (by rw [be_len]; exact ebytes_8 hu)
  rw [be_len] at h
  exact h
theorem RetOwn.e {w w' : World} {l : List UInt8} {v : Value} (h : w'.ownsRow w.heap.size 5 1 v l.length (l.map bv)) (hb : Below w.heap.size w w') : RetE w (l, 0) (.returned (.tuple #[v, .int .i64 0])) w' :=
  ⟨v, rfl, isB_own h, hb⟩
set_option maxHeartbeats 1000000 in
theorem eput_any (x t : Int) (s : Bool) (w : World) (h0 : -9223372036854775808 ≤ x) (h1 : x ≤ 9223372036854775807) :
    Calls Tryz.prog 58 #[.int .i64 x, .int .i64 t, .bool s] w (RetE w (eput x t s)) := by
  by_cases ht : t < 3
  · have hE := Lib.hid (eput_times (x := x) (s := s) (.inl ht))
    have d1 : decide (t < 3) = true := decide_eq_true ht
    go_enter Tryz.func58, Tryz.ntmps58
    go_wp2
    go_ret2
    rw [hE.out]
    exact RetE.nil _ (Below.refl _ _)
  · have d1 : decide (t < 3) = false := decide_eq_false ht
    by_cases ht2 : 10 < t
    · have hE := Lib.hid (eput_times (x := x) (s := s) (.inr ht2))
      have d2 : decide (10 < t) = true := decide_eq_true ht2
      go_enter Tryz.func58, Tryz.ntmps58
      go_wp2
      go_ret2
      rw [hE.out]
      exact RetE.nil _ (Below.refl _ _)
    · have d2 : decide (10 < t) = false := decide_eq_false ht2
      obtain ⟨T, rfl⟩ := Int.eq_ofNat_of_zero_le (show 0 ≤ t by omega)
      have h3 : 3 ≤ T := by omega
      have h10 : T ≤ 10 := by omega
      cases s with
      | false =>
        by_cases hx : x < 0
        · have hE := Lib.hid (eput_not (x := x) (s := false) (t := (T : Int)) (by unfold eplain; rw [if_neg (by simp), if_neg (by omega)]))
          have d3 : decide (x < 0) = true := decide_eq_true hx
          go_enter Tryz.func58, Tryz.ntmps58
          go_wp2
          go_ret2
          rw [hE.out]
          exact RetE.nil _ (Below.refl _ _)
        · have d3 : decide (x < 0) = false := decide_eq_false hx
          obtain ⟨u, rfl⟩ := Int.eq_ofNat_of_zero_le (show 0 ≤ x by omega)
          have hw : IntKind.u64.wrap (u : Int) = (u : Int) := by rw [IntKind.wrap_u64]; omega
          have hu64 : u < 2 ^ 64 := by omega
          have hE := Lib.hid (eput_ok (x := (u : Int)) (s := false) h3 h10 (by unfold eplain; rw [if_neg (by simp), if_pos (by omega), Int.toNat_natCast]))
          have HD := Lib.hid (edigits_any u w hu64)
          have HL := Lib.hid (fun v W hv => elay_any u T v W hu64 hv h3 h10)
          clear h0 h1 hx hu64
          go_enter Tryz.func58, Tryz.ntmps58
          go_wp2_with fail
          refine HD.out.mono ?_
          rintro e w2 ⟨v2, rfl, hv2, hb2⟩
          have HV2 := Lib.hid hv2
          have HB2 := Lib.hid hb2
          clear hv2 hb2
          go_wp2_with (go_at_call 100; refine (HL.out _ _ HV2.out).mono ?_)
          rintro e w3 ⟨v3, rfl, hv3, hb3⟩
          have HV3 := Lib.hid (isB_own hv3)
          have HB3 := Lib.hid (below_then HB2.out hb3)
          clear hv3 hb3
          go_wp2
          go_ret2
          rw [hE.out]
          exact ⟨_, rfl, HV3.out, HB3.out⟩
      | true =>
        have hz := vzig_bd h0 h1
        obtain ⟨u, hu⟩ : ∃ u, u = (vzig x).toNat := ⟨_, rfl⟩
        have hui : vzig x = (u : Int) := by omega
        have hu64 : u < 2 ^ 64 := by omega
        have hE := Lib.hid (eput_ok (x := x) (s := true) h3 h10 (by unfold eplain; rw [if_pos rfl, ← hu]))
        have HZ := Lib.hid (zig_any x w h0 h1)
        rw [hui] at HZ
        have HD := Lib.hid (edigits_any u w hu64)
        have HL := Lib.hid (fun v W hv => elay_any u T v W hu64 hv h3 h10)
        clear h0 h1 hz hu hui hu64
        rcases Bool.eq_false_or_eq_true (decide (x < 0)) with d3 | d3
        all_goals
          go_enter Tryz.func58, Tryz.ntmps58
          go_wp2_with (first | (go_at_call 99; refine HZ.out.mono ?_; rintro e w' ⟨rfl, rfl⟩) | (go_at_call 101; refine HD.out.mono ?_))
          rintro e w2 ⟨v2, rfl, hv2, hb2⟩
          have HV2 := Lib.hid hv2
          have HB2 := Lib.hid hb2
          clear hv2 hb2
          go_wp2_with (go_at_call 100; refine (HL.out _ _ HV2.out).mono ?_)
          rintro e w3 ⟨v3, rfl, hv3, hb3⟩
          have HV3 := Lib.hid (isB_own hv3)
          have HB3 := Lib.hid (below_then HB2.out hb3)
          clear hv3 hb3
          go_wp2
          go_ret2
          rw [hE.out]
          exact ⟨_, rfl, HV3.out, HB3.out⟩

theorem elook_none (A : Option Addr) (c : Nat) (w : World) : Calls Tryz.prog 102 #[.slice A 0 c] w fun e w' => e = .returned (.tuple #[.int .i64 0, .int .i64 0, .bool false]) ∧ w = w' := by
  go_enter Tryz.func102, Tryz.ntmps102
  go_wp2
  go_ret3
  exact ⟨rfl, rfl⟩
theorem elook_any (ad : Addr) (n c B K T : Nat) (ok : Bool) (w : World) (hc0 : w.cell? ad = some (.int .u8 (B : Int))) (hB : B < 256) (hn0 : 0 < n) (hn : n ≤ 1000000) (hK : K = B / 8 + 1) (hT : T = B % 8 + 3) (hok : ok = decide (K ≤ 8 ∧ K < n)) :
    Calls Tryz.prog 102 #[.slice (some ad) n c] w fun e w' => e = .returned (.tuple #[.int .i64 (K : Int), .int .i64 (T : Int), .bool ok]) ∧ Below w.heap.size w w' := by
  have hKi : (B : Int) / 8 + 1 = (K : Int) := by omega
  have hTi : (B : Int) % 8 + 3 = (T : Int) := by omega
  have hni : ((n : Int) == 0) = false := by simp; omega
  have hn0i : (0 : Int) < (n : Int) := by omega
  have hK32 : K ≤ 32 := by omega
  have hT10 : T ≤ 10 := by omega
  by_cases h8 : K ≤ 8
  · have d8 : decide ((K : Int) ≤ 8) = true := decide_eq_true (by omega)
    by_cases hl : K < n
    · have dl : decide ((K : Int) < (n : Int)) = true := decide_eq_true (by omega)
      rw [decide_eq_true (show K ≤ 8 ∧ K < n from ⟨h8, hl⟩)] at hok
      subst hok
      clear hK hT hn
      go_enter Tryz.func102, Tryz.ntmps102
      go_wp2
      go_quiet (fail)
      go_wp2
      go_ret3
      exact ⟨rfl, below_drewN (Below.refl _ _) nq⟩
    · have dl : decide ((K : Int) < (n : Int)) = false := decide_eq_false (by omega)
      rw [decide_eq_false (show ¬ (K ≤ 8 ∧ K < n) by omega)] at hok
      subst hok
      clear hK hT hn
      go_enter Tryz.func102, Tryz.ntmps102
      go_wp2
      go_quiet (fail)
      go_wp2
      go_ret3
      exact ⟨rfl, below_drewN (Below.refl _ _) nq⟩
  · have d8 : decide ((K : Int) ≤ 8) = false := decide_eq_false (by omega)
    rw [decide_eq_false (show ¬ (K ≤ 8 ∧ K < n) by omega)] at hok
    subst hok
    clear hK hT hn
    go_enter Tryz.func102, Tryz.ntmps102
    go_wp2
    go_quiet (fail)
    go_wp2
    go_ret3
    exact ⟨rfl, below_drewN (Below.refl _ _) nq⟩

/-- A number out of its bytes: as few as it needs, and with room. -/
def enum (l : List UInt8) (s : Bool) : Option Int := if ebytes (bval l) = l.length then emade (bval l) s else none
def ENumRel (l : List UInt8) (n : Nat) (v i : Value) : Prop := ∃ (k : Nat) (U : Int), k ≤ n ∧ i = .int .i64 (k : Int) ∧ v = .int .u64 U ∧ U = ((bval (l.take k) : Nat) : Int)
set_option maxHeartbeats 1000000 in
theorem enumber_any (s : Bool) (l : List UInt8) (v : Value) (w : World) (hv : IsB l v w) (h8 : l.length ≤ 8) :
    Calls Tryz.prog 103 #[.bool s, v] w fun e w' => e = .returned (.tuple #[.int .i64 ((enum l s).getD 0), .bool (enum l s).isSome]) ∧ w = w' := by
  obtain ⟨A, c, rfl, hA, hnc, hcm, hl⟩ := hv
  obtain ⟨n, hn⟩ : ∃ n, n = l.length := ⟨_, rfl⟩
  rw [← hn] at hA hnc h8 ⊢
  have HN := Lib.hid hn
  have HLi := Lib.hid hl
  clear hn hl hA hnc hcm
  go_enter Tryz.func103, Tryz.ntmps103
  go_wp2
  go_loop [6, 11] (ENumRel l n) (fun _ i => n - (intOf i).toNat)
  case atStart => exact ⟨0, 0, by omega, rfl, rfl, by simp [bval]⟩
  case round =>
    obtain ⟨k, U, hk, rfl, rfl, hU⟩ := hrel
    have HU := Lib.hid hU
    by_cases hlt : k < n
    · have hlt2 : (k : Int) < (n : Int) := by omega
      have hkl : k < l.length := by have := HN.out; omega
      obtain ⟨ad, rfl, _, hcell⟩ := HLi.out.cell (k := k) (by rw [List.length_map]; exact hkl)
      obtain ⟨y, hy⟩ : ∃ y : Nat, y = l[k].toNat := ⟨_, rfl⟩
      have hy8 : y < 256 := by rw [hy]; exact UInt8.toNat_lt _
      have hcy : w.cell? (ad.add k) = some (.int .u8 (y : Int)) := by rw [hcell, List.getElem_map, hy]; rfl
      obtain ⟨X, hX⟩ : ∃ X, X = bval (l.take k) := ⟨_, rfl⟩
      rw [← hX] at hU
      subst hU
      have hX7 : (X : Int) < 72057594037927936 := by rw [hX]; exact bval_seven _ (by omega)
      obtain ⟨Y, hY⟩ : ∃ Y, Y = X * 2 ^ 8 := ⟨_, rfl⟩
      have hsh : IntKind.u64.wrap ((X : Int) * 2 ^ 8) = (Y : Int) := by rw [IntKind.wrap_u64]; omega
      have hsh2 : IntKind.u64.wrap ((X : Int) * 256) = (Y : Int) := by rw [IntKind.wrap_u64]; omega
      have hyw : IntKind.u64.wrap (y : Int) = (y : Int) := by rw [IntKind.wrap_u64]; omega
      have hor := or_word 8 Y y (by rw [hY]; exact Nat.mul_mod_left _ _) (by omega) (by omega)
      obtain ⟨Z, hZ⟩ : ∃ Z, Z = Y + y := ⟨_, rfl⟩
      rw [← hZ] at hor
      have HZ : Hid (Z = bval (l.take (k + 1))) := Lib.hid (by rw [hZ, hY, bval_at _ _ hkl, ← hX, ← hy]; omega)
      clear hcell hy hX hX7 hY hZ HU
      go_wp2
      go_round
      case rel => exact ⟨k + 1, Z, by omega, by go_num, rfl, by rw [HZ.out]⟩
      case measure => simp [intOf]; omega
    · obtain rfl : k = n := by omega
      have hlt2 : ¬ (k : Int) < (k : Int) := by omega
      obtain ⟨u, hu⟩ : ∃ u, u = bval l := ⟨_, rfl⟩
      have hUu : U = (u : Int) := by rw [hU, List.take_of_length_le (by have := HN.out; omega), hu]
      have hu64 : u < 2 ^ 64 := by
        rw [hu, ← List.take_length (l := l)]
        exact bval_eight _ (by have := HN.out; omega)
      obtain ⟨m, hm⟩ : ∃ m, m = ebytes u := ⟨_, rfl⟩
      have HS := Lib.hid (fun W => esize_any u W hu64)
      rw [← hm] at HS
      by_cases hs : m = k
      · have hsi : ((k : Int) != (m : Int)) = false := by rw [hs]; simp
        have HE := Lib.hid (show enum l s = emade u s by unfold enum; rw [← hu, ← hm, ← HN.out, if_pos hs])
        cases s with
        | true =>
          have HZ := Lib.hid (fun W => zag_any (u : Int) W (by omega) (by omega))
          have HM := Lib.hid (emade_true u)
          subst hUu
          clear hu hu64 hm hU HU
          go_wp2_with (first | (go_at_call 134; refine (HS.out _).mono ?_; rintro e w' ⟨rfl, rfl⟩) | (go_at_call 111; refine (HZ.out _).mono ?_; rintro e w' ⟨rfl, rfl⟩))
          go_ret2
          rw [HE.out, HM.out]
          exact ⟨rfl, rfl⟩
        | false =>
          by_cases hx : U < 9223372036854775808
          · have HM := Lib.hid (emade_low (by omega) hx)
            have hmx : decide ((9223372036854775807 : Int) < U) = false := decide_eq_false (by omega)
            have hU0 : 0 ≤ U := by omega
            have hUw : IntKind.i64.wrap U = U := by rw [IntKind.wrap_i64]; omega
            rw [← hUu] at HS
            have HT : Hid (U.toNat = u) := Lib.hid (by omega)
            clear hu hu64 hm hU HU hUu
            go_wp2_with (go_at_call 134; refine (HS.out _).mono ?_; rintro e w' ⟨rfl, rfl⟩)
            go_ret2
            rw [HE.out, ← HT.out, HM.out]
            exact ⟨rfl, rfl⟩
          · have HM := Lib.hid (emade_high (U := U) (by omega))
            have hmx : decide ((9223372036854775807 : Int) < U) = true := decide_eq_true (by omega)
            rw [← hUu] at HS
            have HT : Hid (U.toNat = u) := Lib.hid (by omega)
            clear hu hu64 hm hU HU hUu hx
            go_wp2_with (go_at_call 134; refine (HS.out _).mono ?_; rintro e w' ⟨rfl, rfl⟩)
            go_ret2
            rw [HE.out, ← HT.out, HM.out]
            exact ⟨rfl, rfl⟩
      · have hsi : ((k : Int) != (m : Int)) = true := by simp; omega
        have HE := Lib.hid (show enum l s = none by unfold enum; rw [← hu, ← hm, ← HN.out, if_neg hs])
        subst hUu
        clear hu hu64 hm hU HU
        go_wp2_with (go_at_call 134; refine (HS.out _).mono ?_; rintro e w' ⟨rfl, rfl⟩)
        go_ret2
        rw [HE.out]
        exact ⟨rfl, rfl⟩

end Go.Proofs.YtnbiopihcbnkpaaGreatDoor

/- Bytes and rows outlast what is written elsewhere. Over any program. -/





namespace Go.Proofs.YtnbiopihcbnkpaaGreatDoor

open Go.RowKit

theorem block_ne {w : World} {g : Nat} {t : TypeId} {cs : List Value} {ad : Addr} {u : Value} (h : Row w g t cs) (hc : w.cell? ad = some u) (hu : u ∉ cs) : ad.block ≠ g := by
  intro e
  unfold Row at h
  unfold World.cell? at hc
  rw [e, h] at hc
  dsimp only at hc
  split at hc
  · cases hc
  · rw [List.getElem?_toArray] at hc
    exact hu (List.mem_of_getElem? hc)
theorem row_grown {w w' : World} {k g : Nat} {t : TypeId} {l : List Value} (h : Row w k t l) (hg : w.grownBy w' (some g)) (hne : k ≠ g) : Row w' k t l := (hg.block k h.lt (by intro e; injection e with e; exact hne e)).trans h
theorem isB_grown {l : List UInt8} {v : Value} {w w' : World} {g : Nat} {t : TypeId} {cs : List Value} (h : IsB l v w) (hr : Row w g t cs) (hcs : ∀ b : UInt8, bv b ∉ cs) (hg : w.grownBy w' (some g)) : IsB l v w' := by
  obtain ⟨A, c, rfl, hA, hnc, hcm, hl⟩ := h
  refine ⟨A, c, rfl, hA, hnc, hcm, ?_⟩
  rcases hl with h0 | ⟨ad, rfl, hlt, hc⟩
  · exact .inl h0
  · cases l with
    | nil => exact .inl rfl
    | cons x l =>
      have hne := block_ne hr (hc 0 (bv x) rfl) (hcs x)
      rw [add_block] at hne
      refine .inr ⟨ad, rfl, Nat.lt_of_lt_of_le hlt hg.size, fun j u hj => ?_⟩
      have h2 := hc j u hj
      unfold World.cell? at h2 ⊢
      rw [add_block] at h2 ⊢
      rw [hg.block ad.block hlt (by intro e; injection e with e; exact hne e)]
      exact h2
end Go.Proofs.YtnbiopihcbnkpaaGreatDoor

/- x & (2^w - 1) of a number with a sign. -/



namespace Go.Proofs.YtnbiopihcbnkpaaGreatDoor

theorem i64_mask (n : Int) (w : Nat) (hw : w ≤ 62) : bits .and .i64 n (((2 ^ w - 1 : Nat) : Nat) : Int) = n % ((2 ^ w : Nat) : Int) := by
  have hW : 2 ^ w ≤ 2 ^ 62 := Nat.pow_le_pow_right (by omega) hw
  have hp : 0 < 2 ^ w := Nat.two_pow_pos w
  have h31 : (BitVec.ofInt 64 ((2 ^ w - 1 : Nat) : Int)).toNat = 2 ^ w - 1 := by
    rw [BitVec.ofInt_natCast, BitVec.toNat_ofNat]
    exact Nat.mod_eq_of_lt (by omega)
  have key : (BitVec.ofInt 64 n &&& BitVec.ofInt 64 ((2 ^ w - 1 : Nat) : Int)).toNat = (n % ((2 ^ 64 : Nat) : Int)).toNat % 2 ^ w := by
    rw [BitVec.toNat_and, BitVec.toNat_ofInt, h31, Nat.and_two_pow_sub_one_eq_mod]
  have hdvd : ((2 ^ w : Nat) : Int) ∣ ((2 ^ 64 : Nat) : Int) := Int.natCast_dvd_natCast.2 (Nat.pow_dvd_pow 2 (by omega))
  have e1 : (((n % ((2 ^ 64 : Nat) : Int)).toNat % 2 ^ w : Nat) : Int) = n % ((2 ^ w : Nat) : Int) := by
    rw [Int.natCast_emod, Int.toNat_of_nonneg (Int.emod_nonneg _ (by decide)), Int.emod_emod_of_dvd _ hdvd]
  show IntKind.i64.wrap ((BitVec.ofInt 64 n &&& BitVec.ofInt 64 ((2 ^ w - 1 : Nat) : Int)).toNat : Nat) = _
  rw [key, e1, IntKind.wrap_i64]
  have h1 := Int.emod_nonneg n (show ((2 ^ w : Nat) : Int) ≠ 0 by omega)
  have h2 := Int.emod_lt_of_pos n (show (0 : Int) < ((2 ^ w : Nat) : Int) by omega)
  omega
end Go.Proofs.YtnbiopihcbnkpaaGreatDoor

/- direct's own contracts, but Take's and Put's. -/







namespace Go.Proofs.YtnbiopihcbnkpaaGreatDoor

open Go.RowKit

theorem i64_or_nat (a b : Nat) (ha : a < 2 ^ 63) (hb : b < 2 ^ 63) : bits .or .i64 (a : Int) (b : Int) = ((a ||| b : Nat) : Int) := by
  have h := Nat.or_lt_two_pow ha hb
  show IntKind.i64.wrap ((BitVec.ofInt 64 (a : Int) ||| BitVec.ofInt 64 (b : Int)).toNat : Int) = _
  rw [BitVec.toNat_or, BitVec.ofInt_natCast, BitVec.ofInt_natCast, BitVec.toNat_ofNat, BitVec.toNat_ofNat, Nat.mod_eq_of_lt (by omega), Nat.mod_eq_of_lt (by omega), IntKind.wrap_i64]
  omega
/-- Bits that don't meet are added. -/
theorem or_i64 (n Y P : Nat) (h0 : Y % 2 ^ n = 0) (h1 : P < 2 ^ n) (h2 : Y + P < 2 ^ 63) : bits .or .i64 (Y : Int) (P : Int) = ((Y + P : Nat) : Int) := by
  rw [i64_or_nat _ _ (by omega) (by omega), nat_join n Y P h0 h1]
theorem dcount_yes (n : Int) (w : World) (h0 : 1 ≤ n) (h1 : n ≤ 512) : Calls Tryz.prog 61 #[.int .i64 n] w fun e w' => e = .returned (.bool true) ∧ w = w' := by
  go_enter Tryz.func61, Tryz.ntmps61
  go_wp2
  go_ret
  exact ⟨rfl, rfl⟩
theorem dcount_no (n : Int) (w : World) (h : n < 1 ∨ 512 < n) : Calls Tryz.prog 61 #[.int .i64 n] w fun e w' => e = .returned (.bool false) ∧ w = w' := by
  rcases h with h | h
  · have h2 : decide (1 ≤ n) = false := by simp; omega
    go_enter Tryz.func61, Tryz.ntmps61
    go_wp2
    go_ret
    exact ⟨rfl, rfl⟩
  · have h2 : decide (n ≤ 512) = false := by simp; omega
    have h3 : decide (1 ≤ n) = true := by simp; omega
    go_enter Tryz.func61, Tryz.ntmps61
    go_wp2
    go_ret
    exact ⟨rfl, rfl⟩
theorem wof_fin : ∀ c : Fin 32, 0 < wof (c.val : Int) := by decide +kernel
theorem wof_zero {c : Int} : wof c = 0 ↔ ¬ (0 ≤ c ∧ c ≤ 31) := by
  constructor
  · rintro h ⟨h0, h1⟩
    obtain ⟨k, rfl⟩ := Int.eq_ofNat_of_zero_le h0
    have h2 := wof_fin ⟨k, by omega⟩
    dsimp only at h2
    rw [h] at h2
    exact absurd h2 (by decide)
  · intro h
    exact wof_out (by omega)
set_option maxHeartbeats 2000000 in
set_option maxRecDepth 100000 in
theorem dhead_own (k c m : Int) (w : World) (ht : WTab w) (hk : inInt k) (hc : inInt c) (hm : inInt m) : Calls Tryz.prog 66 #[.int .i64 k, .int .i64 c, .int .i64 m] w (RetH w (dhead k c m)) := by
  have HOF := Lib.hid (of_any c w ht hc.1 hc.2)
  by_cases h0 : k < 0
  · have d0 : decide (k < 0) = true := decide_eq_true h0
    have hE := Lib.hid (dhead_no (k := k) (c := c) (m := m) (by omega))
    clear ht
    go_enter Tryz.func66, Tryz.ntmps66
    go_wp2
    go_ret
    rw [hE.out]
    exact ⟨_, rfl, World.ownsRow_nil _ _ _ _, Below.refl _ _⟩
  · have d0 : decide (k < 0) = false := decide_eq_false h0
    by_cases h1 : 4 ≤ k
    · have d1 : decide (4 ≤ k) = true := decide_eq_true h1
      have hE := Lib.hid (dhead_no (k := k) (c := c) (m := m) (by omega))
      clear ht
      go_enter Tryz.func66, Tryz.ntmps66
      go_wp2
      go_ret
      rw [hE.out]
      exact ⟨_, rfl, World.ownsRow_nil _ _ _ _, Below.refl _ _⟩
    · have d1 : decide (4 ≤ k) = false := decide_eq_false h1
      obtain ⟨W, hW⟩ : ∃ W, W = wof c := ⟨_, rfl⟩
      have hz : W = 0 ↔ ¬ (0 ≤ c ∧ c ≤ 31) := by rw [hW]; exact wof_zero
      rw [← hW] at HOF
      clear hW ht
      by_cases h2 : W = 0
      · have hE := Lib.hid (dhead_no (k := k) (c := c) (m := m) (fun h => (hz.1 h2) ⟨h.2.2.1, h.2.2.2.1⟩))
        have d2 : (W == 0) = true := by simpa using h2
        clear h2 hz
        go_enter Tryz.func66, Tryz.ntmps66
        go_wp2_with (go_at_call 70; refine HOF.out.mono ?_; rintro e w' ⟨rfl, rfl⟩)
        go_ret
        rw [hE.out]
        exact ⟨_, rfl, World.ownsRow_nil _ _ _ _, Below.refl _ _⟩
      · have d2 : (W == 0) = false := by simpa using h2
        have hc2 : 0 ≤ c ∧ c ≤ 31 := Classical.not_not.1 (fun h => h2 (hz.2 h))
        clear h2 hz
        by_cases h3 : m < 1 ∨ 512 < m
        · have hE := Lib.hid (dhead_no (k := k) (c := c) (m := m) (by omega))
          have HC := Lib.hid (dcount_no m w h3)
          clear h3
          go_enter Tryz.func66, Tryz.ntmps66
          go_wp2_with (first | (go_at_call 70; refine HOF.out.mono ?_; rintro e w' ⟨rfl, rfl⟩) | (go_at_call 61; refine HC.out.mono ?_; rintro e w' ⟨rfl, rfl⟩))
          go_ret
          rw [hE.out]
          exact ⟨_, rfl, World.ownsRow_nil _ _ _ _, Below.refl _ _⟩
        · have HC := Lib.hid (dcount_yes m w (by omega) (by omega))
          obtain ⟨K, rfl⟩ := Int.eq_ofNat_of_zero_le (show 0 ≤ k by omega)
          obtain ⟨C, rfl⟩ := Int.eq_ofNat_of_zero_le (show 0 ≤ c by omega)
          obtain ⟨M, rfl⟩ := Int.eq_ofNat_of_zero_le (show 0 ≤ m by omega)
          have hK : K ≤ 3 := by omega
          have hC : C ≤ 31 := by omega
          have hM1 : 1 ≤ M := by omega
          have hM : M ≤ 512 := by omega
          obtain ⟨P, hP⟩ : ∃ P, M = P + 1 := ⟨M - 1, by omega⟩
          have hE := Lib.hid (dhead_in hK hC hM1 hM)
          obtain ⟨a1, ha1⟩ : ∃ a, a = 16384 * K := ⟨_, rfl⟩
          obtain ⟨a2, ha2⟩ : ∃ a, a = 512 * C := ⟨_, rfl⟩
          obtain ⟨Y, hY⟩ : ∃ Y, Y = a1 + a2 := ⟨_, rfl⟩
          obtain ⟨X, hX⟩ : ∃ X, X = Y + P := ⟨_, rfl⟩
          obtain ⟨H, hH⟩ : ∃ H, H = X / 256 := ⟨_, rfl⟩
          obtain ⟨Z, hZ⟩ : ∃ Z, Z = X % 256 := ⟨_, rfl⟩
          have s1 : IntKind.i64.wrap ((K : Int) * 2 ^ 14) = (a1 : Int) := by rw [IntKind.wrap_i64]; omega
          have s1' : (K : Int) * 16384 = (a1 : Int) := by omega
          have s2 : IntKind.i64.wrap ((C : Int) * 2 ^ 9) = (a2 : Int) := by rw [IntKind.wrap_i64]; omega
          have s2' : (C : Int) * 512 = (a2 : Int) := by omega
          have o1 : bits .or .i64 (a1 : Int) (a2 : Int) = (Y : Int) := by rw [hY]; exact or_i64 14 a1 a2 (by omega) (by omega) (by omega)
          have o2 : bits .or .i64 (Y : Int) (P : Int) = (X : Int) := by rw [hX]; exact or_i64 9 Y P (by omega) (by omega) (by omega)
          have hp : ((P + 1 : Nat) : Int) - 1 = (P : Int) := by omega
          have q1 : (X : Int) / 2 ^ 8 = (H : Int) := by omega
          have q1' : (X : Int) / 256 = (H : Int) := by omega
          have w1 : IntKind.u8.wrap (H : Int) = (H : Int) := by rw [IntKind.wrap_u8]; omega
          have w2 : IntKind.u8.wrap (X : Int) = (Z : Int) := by rw [IntKind.wrap_u8]; omega
          have HT := Lib.hid (dheadN_two (k := K) (c := C) (m := M) (X := X) (h := H) (y := Z) (by omega) hH hZ (by omega))
          subst hP
          have hown := own_new w 5 [.int .u8 (H : Int), .int .u8 (Z : Int)] 2 rfl (by omega)
          rw [← HT.out] at hown
          have HOWN := Lib.hid hown
          clear hown ha1 ha2 hY hX hH hZ hc2
          go_enter Tryz.func66, Tryz.ntmps66
          go_wp2_with (first | (go_at_call 70; refine HOF.out.mono ?_; rintro e w' ⟨rfl, rfl⟩) | (go_at_call 61; refine HC.out.mono ?_; rintro e w' ⟨rfl, rfl⟩))
          go_ret
          rw [hE.out]
          refine ⟨_, rfl, ?_, (Below.refl _ _).alloc (Nat.le_refl _) _⟩
          have h := HOWN.out
          rw [HT.out] at h
          rw [dheadN_len, HT.out]
          exact h
/-- Bytes that a call answers. -/
def RetS (w : World) (l : List UInt8) (e : Ending) (w' : World) : Prop := ∃ v, e = .returned v ∧ IsB l v w' ∧ Below w.heap.size w w'
theorem dhead_any (k c m : Int) (w : World) (ht : WTab w) (hk : inInt k) (hc : inInt c) (hm : inInt m) : Calls Tryz.prog 66 #[.int .i64 k, .int .i64 c, .int .i64 m] w (RetS w (dhead k c m)) :=
  (dhead_own k c m w ht hk hc hm).mono fun _ _ ⟨v, h1, h2, h3⟩ => ⟨v, h1, isB_own h2, h3⟩
/-- What read answers. -/
theorem dread_no (A : Option Addr) (n c : Nat) (w : World) (h : n < 2) : Calls Tryz.prog 68 #[.slice A n c] w fun e w' => e = .returned (.tuple #[.int .i64 0, .int .i64 0, .int .i64 0, .bool false]) ∧ Below w.heap.size w w' := by
  have d1 : decide ((n : Int) < 2) = true := decide_eq_true (by omega)
  go_enter Tryz.func68, Tryz.ntmps68
  go_wp2
  refine bodyPost_ret (results_tmp4 rfl _ _ _) rfl ?_
  exact ⟨rfl, Below.refl _ _⟩
set_option maxHeartbeats 2000000 in
theorem dread_yes (A : Option Addr) (n c K C M : Nat) (l : List UInt8) (w : World) (hl : Lies w A (l.map bv)) (hn : l.length = n) (h2 : 2 ≤ n) (hb : n ≤ 1000000)
    (hK : dlook l = ((K : Int), (C : Int), (M : Int), l.drop 2, 0)) : Calls Tryz.prog 68 #[.slice A n c] w fun e w' => e = .returned (.tuple #[.int .i64 (K : Int), .int .i64 (C : Int), .int .i64 (M : Int), .bool true]) ∧ Below w.heap.size w w' := by
  have d1 : decide ((n : Int) < 2) = false := decide_eq_false (by omega)
  have hl2 : 2 ≤ l.length := by omega
  obtain ⟨ad, rfl, _, hcell0⟩ := hl.cell (k := 0) (by rw [List.length_map]; omega)
  obtain ⟨_, hAd, _, hcell1⟩ := hl.cell (k := 1) (by rw [List.length_map]; omega)
  injection hAd with hAd
  subst hAd
  obtain ⟨x, hx⟩ : ∃ x : Nat, x = l[0].toNat := ⟨_, rfl⟩
  obtain ⟨y, hy⟩ : ∃ y : Nat, y = l[1].toNat := ⟨_, rfl⟩
  have hx8 : x < 256 := by rw [hx]; exact UInt8.toNat_lt _
  have hy8 : y < 256 := by rw [hy]; exact UInt8.toNat_lt _
  have hc0 : w.cell? ad = some (.int .u8 (x : Int)) := by
    have e : ad.add 0 = ad := by simp [Addr.add]
    rw [e] at hcell0
    rw [hcell0, List.getElem_map, hx]; rfl
  have hc1 : w.cell? ⟨ad.block, ad.off + 1, none⟩ = some (.int .u8 (y : Int)) := by
    have e : ad.add 1 = ⟨ad.block, ad.off + 1, none⟩ := by simp [Addr.add]
    rw [e] at hcell1
    rw [hcell1, List.getElem_map, hy]; rfl
  obtain ⟨X, hX⟩ : ∃ X, X = 256 * x + y := ⟨_, rfl⟩
  rw [dlook_long hl2 (show X = 256 * l[0].toNat + l[1].toNat by rw [hX, hx, hy])] at hK
  injection hK with hK1 hK
  injection hK with hK2 hK
  injection hK with hK3 _
  have k1 : X / 16384 = K := by omega
  have k2 : X / 512 % 32 = C := by omega
  have k3 : X % 512 + 1 = M := by omega
  obtain ⟨Y, hY⟩ : ∃ Y, Y = 256 * x := ⟨_, rfl⟩
  obtain ⟨Q, hQ⟩ : ∃ Q, Q = X / 512 := ⟨_, rfl⟩
  obtain ⟨P, hP⟩ : ∃ P, P = X % 512 := ⟨_, rfl⟩
  have v1 : IntKind.i64.wrap (x : Int) = (x : Int) := by rw [IntKind.wrap_i64]; omega
  have v2 : IntKind.i64.wrap (y : Int) = (y : Int) := by rw [IntKind.wrap_i64]; omega
  have s1 : IntKind.i64.wrap ((x : Int) * 2 ^ 8) = (Y : Int) := by rw [IntKind.wrap_i64]; omega
  have s1' : (x : Int) * 256 = (Y : Int) := by omega
  have o1 : bits .or .i64 (Y : Int) (y : Int) = (X : Int) := by rw [hX, ← hY]; exact or_i64 8 Y y (by omega) (by omega) (by omega)
  have q1 : (X : Int) / 2 ^ 14 = (K : Int) := by omega
  have q1' : (X : Int) / 16384 = (K : Int) := by omega
  have q2 : (X : Int) / 2 ^ 9 = (Q : Int) := by omega
  have q2' : (X : Int) / 512 = (Q : Int) := by omega
  have a1 : bits .and .i64 (Q : Int) 31 = (C : Int) := by rw [i64_and31_mod]; omega
  have a2 : bits .and .i64 (X : Int) 511 = (P : Int) := by
    have h := i64_mask (X : Int) 9 (by omega)
    rw [show ((2 ^ 9 - 1 : Nat) : Int) = 511 from rfl, show ((2 ^ 9 : Nat) : Int) = 512 from rfl] at h
    rw [h]; omega
  have p1 : (P : Int) + 1 = (M : Int) := by omega
  have hn0 : (0 : Int) < (n : Int) := by omega
  have hn1 : (1 : Int) < (n : Int) := by omega
  have hM : M ≤ 512 := by omega
  clear hX hx hy hY hQ hP k1 k2 k3 hK1 hK2 hK3 hl hn hl2 hcell0 hcell1
  go_enter Tryz.func68, Tryz.ntmps68
  go_wp2
  go_quiet (fail)
  go_wp2
  refine bodyPost_ret (results_tmp4 rfl _ _ _) rfl ?_
  exact ⟨rfl, below_drewN (Below.refl _ _) nq⟩
/-- Any bytes' head, or none. -/
theorem dlook_or (l : List UInt8) : (l.length < 2 ∧ dlook l = (0, 0, 0, [], 2)) ∨ (2 ≤ l.length ∧ ∃ K C M : Nat, K ≤ 3 ∧ C ≤ 31 ∧ 1 ≤ M ∧ M ≤ 512 ∧ dlook l = ((K : Int), (C : Int), (M : Int), l.drop 2, 0)) := by
  by_cases h : l.length < 2
  · exact .inl ⟨h, dlook_short h⟩
  · have h2 : 2 ≤ l.length := by omega
    have hx : l[0].toNat < 256 := UInt8.toNat_lt _
    have hy : l[1].toNat < 256 := UInt8.toNat_lt _
    exact .inr ⟨h2, _, _, _, by omega, by omega, by omega, by omega, dlook_long h2 rfl⟩
set_option maxHeartbeats 2000000 in
set_option maxRecDepth 100000 in
theorem dlook_any (l : List UInt8) (v : Value) (w : World) (hv : IsB l v w) (hb : l.length ≤ 1000000) : Calls Tryz.prog 79 #[v] w (RetK w (dlook l)) := by
  obtain ⟨A, c, rfl, hA, hnc, hcm, hl⟩ := hv
  obtain ⟨n, hn⟩ : ∃ n, n = l.length := ⟨_, rfl⟩
  rw [← hn] at hA hnc hb ⊢
  have hci : (c : Int) ≤ 9223372036854775807 := by unfold maxLen at hcm; omega
  rcases dlook_or l with ⟨h2, hd⟩ | ⟨h2, K, C, M, hK, hC, hM1, hM, hd⟩
  · have HR := Lib.hid (dread_no A n c w (by omega))
    have hE := Lib.hid hd
    clear hd hl hn hA
    go_enter Tryz.func79, Tryz.ntmps79
    go_wp2_with fail
    refine HR.out.mono ?_
    rintro e w1 ⟨rfl, hb1⟩
    go_wp2
    refine bodyPost_ret (results_tmp5 rfl _ _ _) rfl ?_
    rw [hE.out]
    exact ⟨_, rfl, isB_nil _, hb1⟩
  · rw [← hn] at h2
    have HR := Lib.hid (dread_yes A n c K C M l w hl hn.symm h2 hb hd)
    have hE := Lib.hid hd
    obtain ⟨N, hN⟩ : ∃ N, N = n - 2 := ⟨_, rfl⟩
    have HF := Lib.hid fun (W : World) (h : Below w.heap.size w W) => from_named (P := Tryz.prog) elemB (k := 2) (by omega) hnc hcm hn.symm (hl.below h) hA
    rw [show ((2 : Nat) : Int) = 2 from rfl] at HF
    have HPM := Lib.hid (show ((l.drop 2).map bv).length = N by rw [List.length_map, List.length_drop]; omega)
    have HL := Lib.hid (show (l.drop 2).length = N by rw [List.length_drop]; omega)
    have hN6 : N ≤ 1000000 := by omega
    clear hd hl hn hA hN
    go_enter Tryz.func79, Tryz.ntmps79
    go_wp2_with fail
    refine HR.out.mono ?_
    rintro e w1 ⟨rfl, hb1⟩
    obtain ⟨v3, hv3, A3, c3, e3, hA3, _, _, hl3⟩ := HF.out w1 hb1
    rw [HL.out] at e3 hA3
    subst e3
    have HB1 := Lib.hid hb1
    clear hb1
    go_wp2_with (first | (refine wpList_slicedL rfl _ _ _ rfl _ (hv3 _) ?_) | (at_builtin; refine wpList_join elemB rfl _ _ rfl w1.heap.size _ _ _ _ _ _ ((l.drop 2).map bv) w1 rfl rfl hA3 HPM.out hl3 (bv_one _) (World.ownsRow_nil _ _ _ _) (Below.refl _ _) (Nat.le_refl _) (by omega) (by omega) ?_))
    intro v5 w5 hown5 hb5 _ _
    rw [← List.map_drop] at hown5
    have HI5 := Lib.hid (show IsB (l.drop 2) v5 w5 from isB_own hown5)
    have HB5 := Lib.hid (below_then HB1.out hb5)
    clear hown5 hb5
    go_wp2
    refine bodyPost_ret (results_tmp5 rfl _ _ _) rfl ?_
    rw [hE.out]
    exact ⟨_, rfl, HI5.out, HB5.out⟩
/-- A row that is filled from the front with what a function makes of others. -/
def FillRel {α β : Type} (f : α → Option β) (enc : β → Value) (z : Value) (t : TypeId) (l : List α) (w : World) (i : Value) (wr : World) : Prop :=
  ∃ (k : Nat) (acc : List β), k ≤ l.length ∧ i = .int .i64 (k : Int) ∧ omap f (l.take k) = some acc ∧ Row wr w.heap.size t (acc.map enc ++ List.replicate (l.length - k) z) ∧ Below w.heap.size w wr
theorem fill_step {β : Type} {enc : β → Value} {z : Value} {acc : List β} {y : β} {n k : Nat} (hk : k < n) (ha : acc.length = k) : (acc.map enc ++ List.replicate (n - k) z).set k (enc y) = (acc ++ [y]).map enc ++ List.replicate (n - (k + 1)) z := by
  have hl : (acc.map enc).length = k := by rw [List.length_map, ha]
  rw [List.set_append_right _ _ (by omega), hl, Nat.sub_self, show n - k = n - (k + 1) + 1 by omega, List.replicate_succ, List.set_cons_zero, List.map_append, List.append_assoc]
  rfl
set_option maxHeartbeats 2000000 in
set_option maxRecDepth 100000 in
theorem dplain_any (l : List Int) (v : Value) (s : Bool) (w : World) (hv : IsV iv l v w) (hl : ∀ x ∈ l, inInt x) (hb : l.length ≤ 1000000) : Calls Tryz.prog 62 #[v, .bool s] w (RetV uv w (dplainE l s)) := by
  obtain ⟨A, c, rfl, hA, hnc, hcm, hlw⟩ := hv
  obtain ⟨n, hn⟩ : ∃ n, n = l.length := ⟨_, rfl⟩
  rw [← hn] at hA hnc hb ⊢
  have HN := Lib.hid hn
  have HL := Lib.hid hlw
  have HI := Lib.hid hl
  clear hn hlw hl hcm hA
  go_enter Tryz.func62, Tryz.ntmps62
  go_wp2_with (refine wpList_make elemU rfl _ _ rfl _ _ _ _ n w w.heap.size rfl rfl rfl rfl (by omega) (by omega) (Below.refl _ _) (Nat.le_refl _) ?_)
  intro w1 hr1 hb1
  have hst : FillRel (eplain · s) uv (uv 0) 53 l w (.int .i64 0) w1 := ⟨0, [], by omega, rfl, rfl, by rw [Nat.sub_zero, ← HN.out]; simpa [iv, uv] using hr1, hb1⟩
  clear hr1 hb1
  go_wp2
  go_loopw [14] (FillRel (eplain · s) uv (uv 0) 53 l w) (fun i _ => n - (intOf i).toNat)
  case atStart => exact hst
  case round =>
    obtain ⟨k, acc, hk, rfl, hacc, hr, hbw⟩ := hrel
    have hz := hbw.size
    have hal : acc.length = k := by rw [omap_len hacc, List.length_take]; omega
    rw [← HN.out] at hr
    have HACC := Lib.hid hacc
    have HAL := Lib.hid hal
    have hk' : k ≤ n := by have := HN.out; omega
    clear hst hacc hal
    by_cases hlt : k < n
    · have hkl : k < l.length := by have := HN.out; omega
      have hlti : (k : Int) < (n : Int) := by omega
      obtain ⟨ad, rfl, _, hcell⟩ := (HL.out.below hbw).cell (k := k) (by rw [List.length_map]; exact hkl)
      obtain ⟨x, hx⟩ : ∃ x, x = l[k] := ⟨_, rfl⟩
      have hcx : wr.cell? (ad.add k) = some (.int .i64 (x)) := by rw [hcell, List.getElem_map, hx]; rfl
      have hxb : inInt x := by rw [hx]; exact HI.out _ (List.getElem_mem hkl)
      have HX := Lib.hid hx
      clear hx hcell
      have hfx := hr.free k
      have hgr := hr.lt
      have hcu : ∃ u, wr.cell? ⟨w.heap.size, k, none⟩ = some u := by
        rw [hr.cell]
        exact ⟨_, List.getElem?_eq_getElem (by rw [List.length_append, List.length_map, List.length_replicate]; have := HAL.out; omega)⟩
      obtain ⟨u0, hcu⟩ := hcu
      cases he : eplain x s with
      | none =>
        have hE : Hid (dplainE l s = ([], 1)) := Lib.hid (by
          have h1 : dplain l s = none := omap_none (x := x) (by rw [HX.out]; exact List.getElem_mem hkl) he
          unfold dplainE; rw [h1])
        cases s with
        | true => unfold eplain at he; rw [if_pos rfl] at he; cases he
        | false =>
          have hx0 : x < 0 := by
            unfold eplain at he
            rw [if_neg (by simp)] at he
            by_cases h : 0 ≤ x
            · rw [if_pos h] at he; cases he
            · omega
          have d3 : decide (x < 0) = true := decide_eq_true hx0
          clear he
          go_wp2
          go_ret2
          rw [hE.out]
          exact RetV.nil _ hbw
      | some u =>
        have hnext : Hid (omap (eplain · s) (l.take (k + 1)) = some (acc ++ [u])) := Lib.hid (omap_take hkl HACC.out (by rw [← HX.out]; exact he))
        have hset := hr.set_ k (uv u)
        rw [fill_step hlt HAL.out] at hset
        have HSET := Lib.hid hset
        have HB3 := Lib.hid (hbw.setCell (p := ⟨w.heap.size, k, none⟩) (Nat.le_refl _) (uv u))
        clear hset hr hbw hz
        cases s with
        | true =>
          have hu : vzig x = (u : Int) := by
            unfold eplain at he
            rw [if_pos rfl] at he
            injection he with he
            have := vzig_bd hxb.1 hxb.2
            omega
          have HZ := Lib.hid (zig_any x wr hxb.1 hxb.2)
          rw [hu] at HZ
          clear he hu
          go_wp2_with (go_at_call 99; refine HZ.out.mono ?_; rintro e w' ⟨rfl, rfl⟩)
          go_roundw
          case rel => exact ⟨k + 1, _, by have := HN.out; omega, by go_num, hnext.out, by rw [← HN.out]; exact HSET.out, HB3.out⟩
          case measure => simp [intOf]; omega
        | false =>
          have hx0 : 0 ≤ x ∧ x = (u : Int) := by
            unfold eplain at he
            rw [if_neg (by simp)] at he
            by_cases h : 0 ≤ x
            · rw [if_pos h] at he; injection he with he; omega
            · rw [if_neg h] at he; cases he
          obtain ⟨h0, hxu⟩ := hx0
          have hxu63 : x ≤ 9223372036854775807 := hxb.2
          have HX2 := HX.out
          subst hxu
          have d3 : decide ((u : Int) < 0) = false := decide_eq_false (by omega)
          have hw : IntKind.u64.wrap (u : Int) = (u : Int) := by rw [IntKind.wrap_u64]; omega
          clear he HX2 hxb hxu63
          go_wp2
          go_roundw
          case rel => exact ⟨k + 1, _, by have := HN.out; omega, by go_num, hnext.out, by rw [← HN.out]; exact HSET.out, HB3.out⟩
          case measure => simp [intOf]; omega
    · obtain rfl : k = n := by omega
      have hlti : ¬ (k : Int) < (k : Int) := by omega
      have hE : Hid (dplainE l s = (acc, 0)) := Lib.hid (by
        have h1 := HACC.out
        rw [List.take_of_length_le (by have := HN.out; omega)] at h1
        unfold dplainE dplain; rw [h1])
      rw [Nat.sub_self, List.replicate_zero, List.append_nil] at hr
      have HR := Lib.hid (isV_row hr HAL.out (by omega))
      go_wp2
      go_ret2
      rw [hE.out]
      exact ⟨_, rfl, HR.out, hbw⟩
set_option maxHeartbeats 2000000 in
set_option maxRecDepth 100000 in
theorem dmade_any (l : List Nat) (v : Value) (s : Bool) (w : World) (hv : IsV uv l v w) (hl : ∀ x ∈ l, x < 2 ^ 64) (hb : l.length ≤ 1000000) : Calls Tryz.prog 71 #[v, .bool s] w (RetV iv w (dmadeE l s)) := by
  obtain ⟨A, c, rfl, hA, hnc, hcm, hlw⟩ := hv
  obtain ⟨n, hn⟩ : ∃ n, n = l.length := ⟨_, rfl⟩
  rw [← hn] at hA hnc hb ⊢
  have HN := Lib.hid hn
  have HL := Lib.hid hlw
  have HI := Lib.hid hl
  clear hn hlw hl hcm hA
  go_enter Tryz.func71, Tryz.ntmps71
  go_wp2_with (refine wpList_make elemI rfl _ _ rfl _ _ _ _ n w w.heap.size rfl rfl rfl rfl (by omega) (by omega) (Below.refl _ _) (Nat.le_refl _) ?_)
  intro w1 hr1 hb1
  have hst : FillRel (emade · s) iv (iv 0) 3 l w (.int .i64 0) w1 := ⟨0, [], by omega, rfl, rfl, by rw [Nat.sub_zero, ← HN.out]; simpa [iv, uv] using hr1, hb1⟩
  clear hr1 hb1
  go_wp2
  go_loopw [14] (FillRel (emade · s) iv (iv 0) 3 l w) (fun i _ => n - (intOf i).toNat)
  case atStart => exact hst
  case round =>
    obtain ⟨k, acc, hk, rfl, hacc, hr, hbw⟩ := hrel
    have hz := hbw.size
    have hal : acc.length = k := by rw [omap_len hacc, List.length_take]; omega
    rw [← HN.out] at hr
    have HACC := Lib.hid hacc
    have HAL := Lib.hid hal
    have hk' : k ≤ n := by have := HN.out; omega
    clear hst hacc hal
    by_cases hlt : k < n
    · have hkl : k < l.length := by have := HN.out; omega
      have hlti : (k : Int) < (n : Int) := by omega
      obtain ⟨ad, rfl, _, hcell⟩ := (HL.out.below hbw).cell (k := k) (by rw [List.length_map]; exact hkl)
      obtain ⟨x, hx⟩ : ∃ x, x = l[k] := ⟨_, rfl⟩
      have hcx : wr.cell? (ad.add k) = some (.int .u64 (x : Int)) := by rw [hcell, List.getElem_map, hx]; rfl
      have hxb : x < 2 ^ 64 := by rw [hx]; exact HI.out _ (List.getElem_mem hkl)
      have HX := Lib.hid hx
      clear hx hcell
      have hfx := hr.free k
      have hgr := hr.lt
      have hcu : ∃ u, wr.cell? ⟨w.heap.size, k, none⟩ = some u := by
        rw [hr.cell]
        exact ⟨_, List.getElem?_eq_getElem (by rw [List.length_append, List.length_map, List.length_replicate]; have := HAL.out; omega)⟩
      obtain ⟨u0, hcu⟩ := hcu
      cases he : emade x s with
      | none =>
        have hE : Hid (dmadeE l s = ([], 2)) := Lib.hid (by
          have h1 : dmade l s = none := omap_none (x := x) (by rw [HX.out]; exact List.getElem_mem hkl) he
          unfold dmadeE; rw [h1])
        cases s with
        | true => unfold emade at he; rw [if_pos rfl] at he; cases he
        | false =>
          have hx0 : 9223372036854775808 ≤ (x : Int) := by
            unfold emade at he
            rw [if_neg (by simp)] at he
            by_cases h : x < 9223372036854775808
            · rw [if_pos h] at he; cases he
            · omega
          have d3 : decide ((9223372036854775807 : Int) < (x : Int)) = true := decide_eq_true (by omega)
          clear he hx0 hxb
          go_wp2
          go_ret2
          rw [hE.out]
          exact RetV.nil _ hbw
      | some u =>
        have hnext : Hid (omap (emade · s) (l.take (k + 1)) = some (acc ++ [u])) := Lib.hid (omap_take hkl HACC.out (by rw [← HX.out]; exact he))
        have hset := hr.set_ k (iv u)
        rw [fill_step hlt HAL.out] at hset
        have HSET := Lib.hid hset
        have HB3 := Lib.hid (hbw.setCell (p := ⟨w.heap.size, k, none⟩) (Nat.le_refl _) (iv u))
        clear hset hr hbw hz
        cases s with
        | true =>
          have hu : vzag (x : Int) = u := by
            unfold emade at he
            rw [if_pos rfl] at he
            injection he with he
          have HZ := Lib.hid (zag_any (x : Int) wr (by omega) (by omega))
          rw [hu] at HZ
          clear he hu hxb
          go_wp2_with (go_at_call 111; refine HZ.out.mono ?_; rintro e w' ⟨rfl, rfl⟩)
          go_roundw
          case rel => exact ⟨k + 1, _, by have := HN.out; omega, by go_num, hnext.out, by rw [← HN.out]; exact HSET.out, HB3.out⟩
          case measure => simp [intOf]; omega
        | false =>
          have hx0 : (x : Int) ≤ 9223372036854775807 ∧ u = (x : Int) := by
            unfold emade at he
            rw [if_neg (by simp)] at he
            by_cases h : x < 9223372036854775808
            · rw [if_pos h] at he; injection he with he; omega
            · rw [if_neg h] at he; cases he
          obtain ⟨h0, rfl⟩ := hx0
          have d3 : decide ((9223372036854775807 : Int) < (x : Int)) = false := decide_eq_false (by omega)
          have hw : IntKind.i64.wrap (x : Int) = (x : Int) := by rw [IntKind.wrap_i64]; omega
          clear he hxb h0
          go_wp2
          go_roundw
          case rel => exact ⟨k + 1, _, by have := HN.out; omega, by go_num, hnext.out, by rw [← HN.out]; exact HSET.out, HB3.out⟩
          case measure => simp [intOf]; omega
    · obtain rfl : k = n := by omega
      have hlti : ¬ (k : Int) < (k : Int) := by omega
      have hE : Hid (dmadeE l s = (acc, 0)) := Lib.hid (by
        have h1 := HACC.out
        rw [List.take_of_length_le (by have := HN.out; omega)] at h1
        unfold dmadeE dmade; rw [h1])
      rw [Nat.sub_self, List.replicate_zero, List.append_nil] at hr
      have HR := Lib.hid (isV_row hr HAL.out (by omega))
      go_wp2
      go_ret2
      rw [hE.out]
      exact ⟨_, rfl, HR.out, hbw⟩
end Go.Proofs.YtnbiopihcbnkpaaGreatDoor

/- direct's Put and Take. -/





namespace Go.Proofs.YtnbiopihcbnkpaaGreatDoor

open Go.RowKit

theorem most_is {l : List Nat} {v : Value} {w : World} (h : IsV uv l v w) (hb : l.length ≤ 1000000) (h64 : ∀ x ∈ l, x < 2 ^ 64) : Calls Tryz.prog 64 #[v] w fun e w' => e = .returned (.int .i64 (wmost l : Int)) ∧ w = w' := by
  obtain ⟨A, c, rfl, h2, h3, h4, h5⟩ := h
  exact most_any A _ c l w h2 rfl h3 hb h5 h64
set_option maxHeartbeats 2000000 in
set_option maxRecDepth 100000 in
theorem dput_any (l : List Int) (v : Value) (s : Bool) (w : World) (ht : WTab w) (hv : IsV iv l v w) (hl : ∀ x ∈ l, inInt x) (hb : l.length ≤ 1000000) :
    Calls Tryz.prog 34 #[v, .bool s] w (RetE w (dputE l s)) := by
  have HP := Lib.hid (dplain_any l v s w hv hl hb)
  obtain ⟨A, c, rfl, hA, hnc, hcm, hlw⟩ := hv
  obtain ⟨n, hn⟩ : ∃ n, n = l.length := ⟨_, rfl⟩
  rw [← hn] at hA hnc hb HP ⊢
  by_cases hlen : n < 1 ∨ 512 < n
  · have hE := Lib.hid (dputE_len (l := l) (s := s) (by omega))
    have HC := Lib.hid (dcount_no (n : Int) w (by omega))
    clear hn hlw hcm hA hlen ht
    go_enter Tryz.func34, Tryz.ntmps34
    go_wp2_with (go_at_call 61; refine HC.out.mono ?_; rintro e w' ⟨rfl, rfl⟩)
    go_ret2
    rw [hE.out]
    exact RetE.nil _ (Below.refl _ _)
  · have HC := Lib.hid (dcount_yes (n : Int) w (by omega) (by omega))
    cases hd : dplain l s with
    | none =>
      have hE := Lib.hid (dputE_no hd)
      have hpe : dplainE l s = ([], 1) := by unfold dplainE; rw [hd]
      rw [hpe] at HP
      clear hn hlw hcm hA hd hpe ht
      go_enter Tryz.func34, Tryz.ntmps34
      go_wp2_with (first | (go_at_call 61; refine HC.out.mono ?_; rintro e w' ⟨rfl, rfl⟩) | (go_at_call 62; refine HP.out.mono ?_))
      rintro e w1 ⟨u, rfl, hu, hb1⟩
      obtain ⟨A1, c1, rfl, _⟩ := hu
      go_wp2
      go_ret2
      rw [hE.out]
      exact RetE.nil _ hb1
    | some us =>
      have hpe : dplainE l s = (us, 0) := by unfold dplainE; rw [hd]
      rw [hpe] at HP
      have H64 := Lib.hid (dplain_lt hl hd)
      have hul := dplain_len hd
      rw [← hn] at hul
      have hE := Lib.hid (dputE_ok hd (by omega) (by omega))
      have hus : us.length ≤ 512 := by omega
      have HUL := Lib.hid hul
      obtain ⟨W, hW⟩ : ∃ W, W = dwide us := ⟨_, rfl⟩
      obtain ⟨C, hC⟩ : ∃ C, C = dcode us := ⟨_, rfl⟩
      have HW := Lib.hid hW
      have HC2 := Lib.hid hC
      have HCL := Lib.hid (fun X (h : WTab X) => closest_any (wmost us : Int) X h)
      rw [dwide_int, ← hW] at HCL
      have HPK := Lib.hid (fun (u : Value) (X : World) (h : IsV uv us u X) => pack_is (W : Int) (isU_iff.2 h) (by omega) H64.out)
      rw [hW, dpacks H64.out, ← hW] at HPK
      obtain ⟨hci, hc31, _⟩ := dcode_int H64.out
      have HCD := Lib.hid (fun X (h : WTab X) => code_any (W : Int) X h)
      rw [hW, hci, ← hC, ← hW] at HCD
      have HHD := Lib.hid (fun X (h : WTab X) => dhead_own 1 (C : Int) (n : Int) X h (by unfold inInt; omega) (by unfold inInt; omega) (by unfold inInt; omega))
      rw [show (1 : Int) = ((1 : Nat) : Int) from rfl, dhead_in (by omega) (by rw [hC]; exact hc31) (by omega) (by omega), show ((1 : Nat) : Int) = (1 : Int) from rfl] at HHD
      have hsz : (bpack us W).length ≤ 4096 := by rw [bpack_len]; exact bsize_small hus (by rw [hW]; exact (dwide_room H64.out).2.1)
      have HT := Lib.hid ht
      clear hn hlw hcm hA hd hpe hul hW hC hci hc31 hlen ht
      go_enter Tryz.func34, Tryz.ntmps34
      go_wp2_with (first | (go_at_call 61; refine HC.out.mono ?_; rintro e w' ⟨rfl, rfl⟩) | (go_at_call 62; refine HP.out.mono ?_))
      rintro e w1 ⟨u, rfl, hu, hb1⟩
      obtain ⟨A1, c1, rfl, hr⟩ := hu
      have hu : IsV uv us (.slice A1 us.length c1) w1 := ⟨A1, c1, rfl, hr⟩
      have HB1 := Lib.hid hb1
      have HM := Lib.hid (most_is hu (by omega) H64.out)
      have HPK1 := Lib.hid (HPK.out _ w1 hu)
      have HCL1 := Lib.hid (HCL.out w1 (HT.out.below hb1 HT.out.lt))
      clear hb1 hr hu
      go_wp2_with (first | (go_at_call 64; refine HM.out.mono ?_; rintro e w' ⟨rfl, rfl⟩) | (go_at_call 63; refine HCL1.out.mono ?_; rintro e w' ⟨rfl, rfl⟩) | (go_at_call 65; refine HPK1.out.mono ?_))
      rintro e w2 ⟨pk, rfl, hpk, hb2⟩
      obtain ⟨A2, c2, rfl, hA2, hn2, hm2, hl2⟩ := hpk
      have hb02 := below_then HB1.out hb2
      have HB2 := Lib.hid hb02
      have HCD2 := Lib.hid (HCD.out w2 (HT.out.below hb02 HT.out.lt))
      have HHD2 := Lib.hid (HHD.out w2 (HT.out.below hb02 HT.out.lt))
      clear hb2 hb02
      go_wp2_with (first | (go_at_call 67; refine HCD2.out.mono ?_; rintro e w' ⟨rfl, rfl⟩) | (go_at_call 66; refine HHD2.out.mono ?_))
      rintro e w3 ⟨hv3, rfl, hh, hb3⟩
      rw [dheadN_len] at hh
      have hz3 := hb3.size
      have hl3 := hl2.below hb3
      have HB3 := Lib.hid (below_then HB2.out hb3)
      obtain ⟨pl, hpl⟩ : ∃ pl, pl = (bpack us W).length := ⟨_, rfl⟩
      have hpm : ((bpack us W).map bv).length = pl := by rw [List.length_map, hpl]
      have HPM := Lib.hid hpm
      rw [← hpl] at hsz hA2 hn2 ⊢
      have HPL := Lib.hid hpl
      obtain ⟨xs, hxs⟩ : ∃ xs, xs = (dheadN 1 C n).map bv := ⟨_, rfl⟩
      rw [← hxs] at hh
      have HXS := Lib.hid hxs
      clear hpm hpl hxs
      go_wp2_with (at_builtin; refine wpList_join elemB rfl _ _ rfl w2.heap.size _ _ _ _ _ _ ((bpack us W).map bv) w2 rfl rfl hA2 HPM.out hl3 (bv_one _) hh hb3 hz3 (by omega) (by omega) ?_)
      intro v4 w4 hown4 hb4 _ _
      have HO := Lib.hid (show IsB (dlay us) v4 w4 by
        have e1 : dlay us = dheadN 1 C n ++ bpack us W := by unfold dlay; rw [HUL.out, ← HC2.out, ← HW.out]
        rw [e1]
        refine isB_own (n := 2 + pl) (base := w2.heap.size) (e := 5) ?_
        rw [List.map_append, ← HXS.out]
        exact hown4)
      have HB4 := Lib.hid (below_then HB2.out hb4)
      clear hown4 hb4 hh hb3 hz3 hl3
      go_wp2
      go_ret2
      rw [hE.out]
      exact ⟨_, rfl, HO.out, HB4.out⟩
/-- What Unpack answers, as a fact of a region. -/
def Fact.taken (w0 : World) (us : List Nat) (q : List UInt8) (y : Int) : Fact := ⟨fun v w => ∃ u r, v = .tuple #[u, r, .int .i64 y] ∧ IsV uv us u w ∧ OwnB w0 q r w, fun _ _ _ ⟨u, r, h1, h2, h3⟩ hb => ⟨u, r, h1, h2.below hb, h3.below hb⟩⟩
def Fact.ownB (w0 : World) (q : List UInt8) : Fact := ⟨OwnB w0 q, fun _ _ _ h hb => h.below hb⟩
set_option maxHeartbeats 2000000 in
set_option maxRecDepth 100000 in
theorem dtake_own (l : List UInt8) (v : Value) (s : Bool) (w : World) (ht : WTab w) (hv : IsB l v w) (hb : l.length ≤ 1000000) :
    Calls Tryz.prog 35 #[v, .bool s] w (RetIO w (dtakeE l s)) := by
  obtain ⟨A, c, rfl, hA, hnc, hcm, hl⟩ := hv
  obtain ⟨n, hn⟩ : ∃ n, n = l.length := ⟨_, rfl⟩
  rw [← hn] at hA hnc hb ⊢
  have hci : (c : Int) ≤ 9223372036854775807 := by unfold maxLen at hcm; omega
  have HT := Lib.hid ht
  clear ht
  rcases dlook_or l with ⟨h2, hd⟩ | ⟨h2, K, C, M, hK, hC, hM1, hM, hd⟩
  · have HR := Lib.hid (dread_no A n c w (by omega))
    have hE := Lib.hid (dtakeE_no (l := l) (s := s) (.inl (by rw [hd]; decide)))
    clear hd hl hn hA
    go_enter Tryz.func35, Tryz.ntmps35
    go_wp2_with (go_at_call 68; refine HR.out.mono ?_)
    rintro e w1 ⟨rfl, hb1⟩
    go_wp2
    go_ret3
    rw [hE.out]
    exact RetIO.nil _ hb1
  · rw [← hn] at h2
    have HR := Lib.hid (dread_yes A n c K C M l w hl hn.symm h2 hb hd)
    by_cases hk1 : K = 1
    · subst hk1
      have HD := Lib.hid hd
      have HF := Lib.hid fun (W : World) (h : Below w.heap.size w W) => from_named (P := Tryz.prog) elemB (k := 2) (by omega) hnc hcm hn.symm (hl.below h) hA
      rw [show ((2 : Nat) : Int) = 2 from rfl] at HF
      obtain ⟨W, hW⟩ : ∃ W, W = wof (C : Int) := ⟨_, rfl⟩
      have HOF := Lib.hid (fun X (h : WTab X) => of_any (C : Int) X h (by omega) (by omega))
      rw [← hW] at HOF
      obtain ⟨us, q, y, hu⟩ : ∃ us q y, unpacksAny (l.drop 2) (M : Int) W = (us, q, y) := ⟨_, _, _, rfl⟩
      have hlt := (unpacksAny_lt (l := l.drop 2) (M := (M : Int)) (W := W)).1
      have hmany := (unpacksAny_lt (l := l.drop 2) (M := (M : Int)) (W := W)).2
      rw [hu] at hlt hmany
      dsimp only at hlt hmany
      have HU := Lib.hid hu
      have HLT := Lib.hid hlt
      have HUN := Lib.hid (fun (u : Value) (X : World) (h : IsB (l.drop 2) u X) => unpack_isO (M : Int) W h (by rw [List.length_drop]; omega))
      rw [HU.out] at HUN
      have HWW := Lib.hid hW
      have hn2 : (2 : Int) ≤ (n : Int) := by omega
      have d1 : (((1 : Nat) : Int) != 1) = false := by simp
      clear hd hu hlt hW hl hn
      by_cases hy : y = 0
      · subst hy
        have HMD := Lib.hid (fun (u : Value) (X : World) (h : IsV uv us u X) => dmade_any us u s X h HLT.out (by omega))
        cases hm : dmade us s with
        | none =>
          have hpe : dmadeE us s = ([], 2) := by unfold dmadeE; rw [hm]
          rw [hpe] at HMD
          have hE := Lib.hid (dtakeE_bad (s := s) HD.out (by rw [← HWW.out]; exact HU.out) hm)
          clear hm hpe
          go_enter Tryz.func35, Tryz.ntmps35
          go_wp2_with (go_at_call 68; refine HR.out.mono ?_)
          rintro e w1 ⟨rfl, hb1⟩
          have HB1 := Lib.hid hb1
          have HOF1 := HOF
          have HT1 := Lib.hid (HT.out.below hb1 HT.out.lt)
          obtain ⟨v3, hv3, hI3⟩ := HF.out w1 hb1
          have HI3 := Lib.hid hI3
          clear hb1 hI3
          go_wp2_with fail
          refine wp_region_list [.is (.slice A n c), .is (v3), .is (.int .i64 (M : Int)), .is (.int .i64 (C : Int)), .is (.int .i64 W), .taken w1 us q 0, .taken w1 us q 0, .vals uv us, .ownB w1 q, .is (.int .i64 0), .vals uv us, .ownB w1 q, .is (.int .i64 0)] [some 29, some 30, some 31, some 32, some 33, some 34, some 28, some 35, some 36, some 37, some 11, some 12, some 13] (by kernel_rfl) (by kernel_rfl) (by kernel_rfl) rfl ⟨?_, ?_, ?_, ?_, ?_, ?_, ?_, ?_, ?_, ?_, ?_, ?_, ?_, trivial⟩ ?_
          · intro ρ W1 hb1 H
            exact gives_move rfl (H.old 0 _ (by kernel_rfl) rfl) ⟨rfl, Below.refl _ _⟩
          · intro ρ W1 hb1 H
            exact gives_slice rfl (H.new 29 0 (by kernel_rfl)) rfl rfl rfl (by simpa [H.const] using hv3 W1) ⟨rfl, Below.refl _ _⟩
          · intro ρ W1 hb1 H
            exact gives_move rfl (H.old 9 _ (by kernel_rfl) rfl) ⟨rfl, Below.refl _ _⟩
          · intro ρ W1 hb1 H
            exact gives_move rfl (H.old 8 _ (by kernel_rfl) rfl) ⟨rfl, Below.refl _ _⟩
          · intro ρ W1 hb1 H
            have e0 : ρ (.tmp 32) = .int .i64 (C : Int) := H.new 32 3 (by kernel_rfl)
            refine gives_call rfl (fun _ _ => by kernel_rfl) (H.func _) (args := #[.int .i64 (C : Int)]) (by simp [e0]) ?_
            exact (HOF1.out W1 (HT1.out.below hb1 HT1.out.lt)).mono fun e w' ⟨h1, h2⟩ => ⟨_, h1, rfl, h2 ▸ Below.refl _ _⟩
          · intro ρ W1 hb1 H
            have e0 : ρ (.tmp 30) = v3 := H.new 30 1 (by kernel_rfl)
            have e1 : ρ (.tmp 31) = .int .i64 (M : Int) := H.new 31 2 (by kernel_rfl)
            have e2 : ρ (.tmp 33) = .int .i64 W := H.new 33 4 (by kernel_rfl)
            refine gives_call rfl (fun _ _ => by kernel_rfl) (H.func _) (args := #[v3, .int .i64 (M : Int), .int .i64 W]) (by simp [e0, e1, e2]) ?_
            exact (HUN.out v3 W1 (HI3.out.below hb1)).mono fun e w' ⟨u, r, h1, h2, h3, h4⟩ => ⟨_, h1, ⟨u, r, rfl, isV_own h2, OwnB.base hb1.size h3⟩, h4⟩
          · intro ρ W1 hb1 H
            exact gives_move rfl rfl ⟨H.new 34 5 (by kernel_rfl), Below.refl _ _⟩
          · intro ρ W1 hb1 H
            have h28 : ∃ u r, ρ (.tmp 28) = .tuple #[u, r, .int .i64 0] ∧ IsV uv us u W1 ∧ OwnB w1 q r W1 := H.new 28 6 (by kernel_rfl)
            obtain ⟨u, r, h1, h2, h3⟩ := h28
            exact gives_extract rfl h1 rfl ⟨h2, Below.refl _ _⟩
          · intro ρ W1 hb1 H
            have h28 : ∃ u r, ρ (.tmp 28) = .tuple #[u, r, .int .i64 0] ∧ IsV uv us u W1 ∧ OwnB w1 q r W1 := H.new 28 6 (by kernel_rfl)
            obtain ⟨u, r, h1, h2, h3⟩ := h28
            exact gives_extract rfl h1 rfl ⟨h3, Below.refl _ _⟩
          · intro ρ W1 hb1 H
            have h28 : ∃ u r, ρ (.tmp 28) = .tuple #[u, r, .int .i64 0] ∧ IsV uv us u W1 ∧ OwnB w1 q r W1 := H.new 28 6 (by kernel_rfl)
            obtain ⟨u, r, h1, h2, h3⟩ := h28
            exact gives_extract rfl h1 rfl ⟨rfl, Below.refl _ _⟩
          · intro ρ W1 hb1 H
            exact gives_assign rfl rfl ⟨H.new 35 7 (by kernel_rfl), Below.refl _ _⟩
          · intro ρ W1 hb1 H
            exact gives_assign rfl rfl ⟨H.new 36 8 (by kernel_rfl), Below.refl _ _⟩
          · intro ρ W1 hb1 H
            exact gives_assign rfl (H.new 37 9 (by kernel_rfl)) ⟨rfl, Below.refl _ _⟩
          · intro vs W1 hb1 hfs
            have f10 : IsV uv us (vs 10) W1 := hfs 10 (by decide)
            have f11 : OwnB w1 q (vs 11) W1 := hfs 11 (by decide)
            have f12 : vs 12 = .int .i64 0 := hfs 12 (by decide)
            clear hfs
            simp only [putAll, Nat.zero_add, Nat.reduceAdd]
            generalize vs 0 = z0
            generalize vs 1 = z1
            generalize vs 2 = z2
            generalize vs 3 = z3
            generalize vs 4 = z4
            generalize vs 5 = z5
            generalize vs 6 = z6
            generalize vs 7 = z7
            generalize vs 8 = z8
            generalize vs 9 = z9
            generalize vs 10 = z10 at f10 ⊢
            generalize vs 11 = z11 at f11 ⊢
            simp only [f12, Act.put, List.setIfInBounds_toArray, List.set_cons_succ, List.set_cons_zero]
            clear f12
            have HB2 := Lib.hid (below_then HB1.out hb1)
            have HI := Lib.hid f10
            have HQ := Lib.hid (OwnB.base HB1.out.size f11)
            clear hb1 f10 f11
            go_wp2_with (go_at_call 71; refine (HMD.out _ _ HI.out).mono ?_)
            rintro e w3 ⟨m3, rfl, hm3, hb3⟩
            obtain ⟨A3, c3, rfl, _⟩ := hm3
            go_wp2
            go_ret3
            rw [hE.out]
            exact RetIO.nil _ (below_then HB2.out hb3)
        | some m =>
          have hpe : dmadeE us s = (m, 0) := by unfold dmadeE; rw [hm]
          rw [hpe] at HMD
          have hE := Lib.hid (dtakeE_ok (s := s) HD.out (by rw [← HWW.out]; exact HU.out) hm)
          clear hm hpe
          go_enter Tryz.func35, Tryz.ntmps35
          go_wp2_with (go_at_call 68; refine HR.out.mono ?_)
          rintro e w1 ⟨rfl, hb1⟩
          have HB1 := Lib.hid hb1
          have HOF1 := HOF
          have HT1 := Lib.hid (HT.out.below hb1 HT.out.lt)
          obtain ⟨v3, hv3, hI3⟩ := HF.out w1 hb1
          have HI3 := Lib.hid hI3
          clear hb1 hI3
          go_wp2_with fail
          refine wp_region_list [.is (.slice A n c), .is (v3), .is (.int .i64 (M : Int)), .is (.int .i64 (C : Int)), .is (.int .i64 W), .taken w1 us q 0, .taken w1 us q 0, .vals uv us, .ownB w1 q, .is (.int .i64 0), .vals uv us, .ownB w1 q, .is (.int .i64 0)] [some 29, some 30, some 31, some 32, some 33, some 34, some 28, some 35, some 36, some 37, some 11, some 12, some 13] (by kernel_rfl) (by kernel_rfl) (by kernel_rfl) rfl ⟨?_, ?_, ?_, ?_, ?_, ?_, ?_, ?_, ?_, ?_, ?_, ?_, ?_, trivial⟩ ?_
          · intro ρ W1 hb1 H
            exact gives_move rfl (H.old 0 _ (by kernel_rfl) rfl) ⟨rfl, Below.refl _ _⟩
          · intro ρ W1 hb1 H
            exact gives_slice rfl (H.new 29 0 (by kernel_rfl)) rfl rfl rfl (by simpa [H.const] using hv3 W1) ⟨rfl, Below.refl _ _⟩
          · intro ρ W1 hb1 H
            exact gives_move rfl (H.old 9 _ (by kernel_rfl) rfl) ⟨rfl, Below.refl _ _⟩
          · intro ρ W1 hb1 H
            exact gives_move rfl (H.old 8 _ (by kernel_rfl) rfl) ⟨rfl, Below.refl _ _⟩
          · intro ρ W1 hb1 H
            have e0 : ρ (.tmp 32) = .int .i64 (C : Int) := H.new 32 3 (by kernel_rfl)
            refine gives_call rfl (fun _ _ => by kernel_rfl) (H.func _) (args := #[.int .i64 (C : Int)]) (by simp [e0]) ?_
            exact (HOF1.out W1 (HT1.out.below hb1 HT1.out.lt)).mono fun e w' ⟨h1, h2⟩ => ⟨_, h1, rfl, h2 ▸ Below.refl _ _⟩
          · intro ρ W1 hb1 H
            have e0 : ρ (.tmp 30) = v3 := H.new 30 1 (by kernel_rfl)
            have e1 : ρ (.tmp 31) = .int .i64 (M : Int) := H.new 31 2 (by kernel_rfl)
            have e2 : ρ (.tmp 33) = .int .i64 W := H.new 33 4 (by kernel_rfl)
            refine gives_call rfl (fun _ _ => by kernel_rfl) (H.func _) (args := #[v3, .int .i64 (M : Int), .int .i64 W]) (by simp [e0, e1, e2]) ?_
            exact (HUN.out v3 W1 (HI3.out.below hb1)).mono fun e w' ⟨u, r, h1, h2, h3, h4⟩ => ⟨_, h1, ⟨u, r, rfl, isV_own h2, OwnB.base hb1.size h3⟩, h4⟩
          · intro ρ W1 hb1 H
            exact gives_move rfl rfl ⟨H.new 34 5 (by kernel_rfl), Below.refl _ _⟩
          · intro ρ W1 hb1 H
            have h28 : ∃ u r, ρ (.tmp 28) = .tuple #[u, r, .int .i64 0] ∧ IsV uv us u W1 ∧ OwnB w1 q r W1 := H.new 28 6 (by kernel_rfl)
            obtain ⟨u, r, h1, h2, h3⟩ := h28
            exact gives_extract rfl h1 rfl ⟨h2, Below.refl _ _⟩
          · intro ρ W1 hb1 H
            have h28 : ∃ u r, ρ (.tmp 28) = .tuple #[u, r, .int .i64 0] ∧ IsV uv us u W1 ∧ OwnB w1 q r W1 := H.new 28 6 (by kernel_rfl)
            obtain ⟨u, r, h1, h2, h3⟩ := h28
            exact gives_extract rfl h1 rfl ⟨h3, Below.refl _ _⟩
          · intro ρ W1 hb1 H
            have h28 : ∃ u r, ρ (.tmp 28) = .tuple #[u, r, .int .i64 0] ∧ IsV uv us u W1 ∧ OwnB w1 q r W1 := H.new 28 6 (by kernel_rfl)
            obtain ⟨u, r, h1, h2, h3⟩ := h28
            exact gives_extract rfl h1 rfl ⟨rfl, Below.refl _ _⟩
          · intro ρ W1 hb1 H
            exact gives_assign rfl rfl ⟨H.new 35 7 (by kernel_rfl), Below.refl _ _⟩
          · intro ρ W1 hb1 H
            exact gives_assign rfl rfl ⟨H.new 36 8 (by kernel_rfl), Below.refl _ _⟩
          · intro ρ W1 hb1 H
            exact gives_assign rfl (H.new 37 9 (by kernel_rfl)) ⟨rfl, Below.refl _ _⟩
          · intro vs W1 hb1 hfs
            have f10 : IsV uv us (vs 10) W1 := hfs 10 (by decide)
            have f11 : OwnB w1 q (vs 11) W1 := hfs 11 (by decide)
            have f12 : vs 12 = .int .i64 0 := hfs 12 (by decide)
            clear hfs
            simp only [putAll, Nat.zero_add, Nat.reduceAdd]
            generalize vs 0 = z0
            generalize vs 1 = z1
            generalize vs 2 = z2
            generalize vs 3 = z3
            generalize vs 4 = z4
            generalize vs 5 = z5
            generalize vs 6 = z6
            generalize vs 7 = z7
            generalize vs 8 = z8
            generalize vs 9 = z9
            generalize vs 10 = z10 at f10 ⊢
            generalize vs 11 = z11 at f11 ⊢
            simp only [f12, Act.put, List.setIfInBounds_toArray, List.set_cons_succ, List.set_cons_zero]
            clear f12
            have HB2 := Lib.hid (below_then HB1.out hb1)
            have HI := Lib.hid f10
            have HQ := Lib.hid (OwnB.base HB1.out.size f11)
            clear hb1 f10 f11
            go_wp2_with (go_at_call 71; refine (HMD.out _ _ HI.out).mono ?_)
            rintro e w3 ⟨m3, rfl, hm3, hb3⟩
            have HQ3 := Lib.hid (HQ.out.below hb3)
            have HM3 := Lib.hid hm3
            have HB3 := Lib.hid (below_then HB2.out hb3)
            clear hm3 hb3
            go_wp2
            go_ret3
            rw [hE.out]
            exact ⟨_, _, rfl, HM3.out, HQ3.out, HB3.out⟩
      · have hE := Lib.hid (dtakeE_cut (s := s) HD.out (by rw [← HWW.out]; exact HU.out) hy)
        have d2 : (y != 0) = true := by simpa using hy
        go_enter Tryz.func35, Tryz.ntmps35
        go_wp2_with (go_at_call 68; refine HR.out.mono ?_)
        rintro e w1 ⟨rfl, hb1⟩
        have HB1 := Lib.hid hb1
        have HOF1 := HOF
        have HT1 := Lib.hid (HT.out.below hb1 HT.out.lt)
        obtain ⟨v3, hv3, hI3⟩ := HF.out w1 hb1
        have HI3 := Lib.hid hI3
        clear hb1 hI3
        go_wp2_with fail
        refine wp_region_list [.is (.slice A n c), .is (v3), .is (.int .i64 (M : Int)), .is (.int .i64 (C : Int)), .is (.int .i64 W), .taken w1 us q y, .taken w1 us q y, .vals uv us, .ownB w1 q, .is (.int .i64 y), .vals uv us, .ownB w1 q, .is (.int .i64 y)] [some 29, some 30, some 31, some 32, some 33, some 34, some 28, some 35, some 36, some 37, some 11, some 12, some 13] (by kernel_rfl) (by kernel_rfl) (by kernel_rfl) rfl ⟨?_, ?_, ?_, ?_, ?_, ?_, ?_, ?_, ?_, ?_, ?_, ?_, ?_, trivial⟩ ?_
        · intro ρ W1 hb1 H
          exact gives_move rfl (H.old 0 _ (by kernel_rfl) rfl) ⟨rfl, Below.refl _ _⟩
        · intro ρ W1 hb1 H
          exact gives_slice rfl (H.new 29 0 (by kernel_rfl)) rfl rfl rfl (by simpa [H.const] using hv3 W1) ⟨rfl, Below.refl _ _⟩
        · intro ρ W1 hb1 H
          exact gives_move rfl (H.old 9 _ (by kernel_rfl) rfl) ⟨rfl, Below.refl _ _⟩
        · intro ρ W1 hb1 H
          exact gives_move rfl (H.old 8 _ (by kernel_rfl) rfl) ⟨rfl, Below.refl _ _⟩
        · intro ρ W1 hb1 H
          have e0 : ρ (.tmp 32) = .int .i64 (C : Int) := H.new 32 3 (by kernel_rfl)
          refine gives_call rfl (fun _ _ => by kernel_rfl) (H.func _) (args := #[.int .i64 (C : Int)]) (by simp [e0]) ?_
          exact (HOF1.out W1 (HT1.out.below hb1 HT1.out.lt)).mono fun e w' ⟨h1, h2⟩ => ⟨_, h1, rfl, h2 ▸ Below.refl _ _⟩
        · intro ρ W1 hb1 H
          have e0 : ρ (.tmp 30) = v3 := H.new 30 1 (by kernel_rfl)
          have e1 : ρ (.tmp 31) = .int .i64 (M : Int) := H.new 31 2 (by kernel_rfl)
          have e2 : ρ (.tmp 33) = .int .i64 W := H.new 33 4 (by kernel_rfl)
          refine gives_call rfl (fun _ _ => by kernel_rfl) (H.func _) (args := #[v3, .int .i64 (M : Int), .int .i64 W]) (by simp [e0, e1, e2]) ?_
          exact (HUN.out v3 W1 (HI3.out.below hb1)).mono fun e w' ⟨u, r, h1, h2, h3, h4⟩ => ⟨_, h1, ⟨u, r, rfl, isV_own h2, OwnB.base hb1.size h3⟩, h4⟩
        · intro ρ W1 hb1 H
          exact gives_move rfl rfl ⟨H.new 34 5 (by kernel_rfl), Below.refl _ _⟩
        · intro ρ W1 hb1 H
          have h28 : ∃ u r, ρ (.tmp 28) = .tuple #[u, r, .int .i64 y] ∧ IsV uv us u W1 ∧ OwnB w1 q r W1 := H.new 28 6 (by kernel_rfl)
          obtain ⟨u, r, h1, h2, h3⟩ := h28
          exact gives_extract rfl h1 rfl ⟨h2, Below.refl _ _⟩
        · intro ρ W1 hb1 H
          have h28 : ∃ u r, ρ (.tmp 28) = .tuple #[u, r, .int .i64 y] ∧ IsV uv us u W1 ∧ OwnB w1 q r W1 := H.new 28 6 (by kernel_rfl)
          obtain ⟨u, r, h1, h2, h3⟩ := h28
          exact gives_extract rfl h1 rfl ⟨h3, Below.refl _ _⟩
        · intro ρ W1 hb1 H
          have h28 : ∃ u r, ρ (.tmp 28) = .tuple #[u, r, .int .i64 y] ∧ IsV uv us u W1 ∧ OwnB w1 q r W1 := H.new 28 6 (by kernel_rfl)
          obtain ⟨u, r, h1, h2, h3⟩ := h28
          exact gives_extract rfl h1 rfl ⟨rfl, Below.refl _ _⟩
        · intro ρ W1 hb1 H
          exact gives_assign rfl rfl ⟨H.new 35 7 (by kernel_rfl), Below.refl _ _⟩
        · intro ρ W1 hb1 H
          exact gives_assign rfl rfl ⟨H.new 36 8 (by kernel_rfl), Below.refl _ _⟩
        · intro ρ W1 hb1 H
          exact gives_assign rfl (H.new 37 9 (by kernel_rfl)) ⟨rfl, Below.refl _ _⟩
        · intro vs W1 hb1 hfs
          have f10 : IsV uv us (vs 10) W1 := hfs 10 (by decide)
          have f11 : OwnB w1 q (vs 11) W1 := hfs 11 (by decide)
          have f12 : vs 12 = .int .i64 y := hfs 12 (by decide)
          clear hfs
          simp only [putAll, Nat.zero_add, Nat.reduceAdd]
          generalize vs 0 = z0
          generalize vs 1 = z1
          generalize vs 2 = z2
          generalize vs 3 = z3
          generalize vs 4 = z4
          generalize vs 5 = z5
          generalize vs 6 = z6
          generalize vs 7 = z7
          generalize vs 8 = z8
          generalize vs 9 = z9
          generalize vs 10 = z10 at f10 ⊢
          generalize vs 11 = z11 at f11 ⊢
          simp only [f12, Act.put, List.setIfInBounds_toArray, List.set_cons_succ, List.set_cons_zero]
          clear f12
          have HB2 := Lib.hid (below_then HB1.out hb1)
          have HI := Lib.hid f10
          have HQ := Lib.hid (OwnB.base HB1.out.size f11)
          clear hb1 f10 f11
          go_wp2
          go_ret3
          rw [hE.out]
          exact RetIO.nil _ HB2.out
    · have hE := Lib.hid (dtakeE_no (l := l) (s := s) (.inr (by rw [hd]; dsimp only; omega)))
      have d1 : ((K : Int) != 1) = true := by simp; omega
      clear hd hl hn hA
      go_enter Tryz.func35, Tryz.ntmps35
      go_wp2_with (go_at_call 68; refine HR.out.mono ?_)
      rintro e w1 ⟨rfl, hb1⟩
      go_wp2
      go_ret3
      rw [hE.out]
      exact RetIO.nil _ hb1
end Go.Proofs.YtnbiopihcbnkpaaGreatDoor

/- delta's own contracts: between, step, isCount, Diff, Step; math/bits.Mul laid. -/











namespace Go.Proofs.YtnbiopihcbnkpaaGreatDoor

open Go.RowKit

/-- A difference as the program holds it. -/
def dpair (p : Nat × Bool × Bool) : Nat × Bool := (p.1, p.2.1)
def dc (d : Nat × Bool) : List Value := [.int .u64 (d.1 : Int), .bool d.2]
theorem dc_len (d : Nat × Bool) : (dc d).length = 2 := rfl
theorem dc_one (d : Nat × Bool) : ∀ u ∈ dc d, u.oneCell' = true := by
  intro u hu
  unfold dc at hu
  simp at hu
  rcases hu with rfl | rfl <;> rfl
theorem dcs_one (l : List (Nat × Bool)) : ∀ u ∈ l.flatMap dc, u.oneCell' = true := by
  intro u hu
  obtain ⟨x, _, hx⟩ := List.mem_flatMap.1 hu
  exact dc_one x u hx
def dv (d : Nat × Bool) : Value := .agg (dc d).toArray
theorem Tryz.infoD : (Tryz.prog.info? 89).map (fun i => (i.zero, i.size, i.bytes)) = some (some (dv (0, false)), 2, 16) := by kernel_rfl
theorem elemD : ElemW Tryz.prog 80 89 16 2 (dv (0, false)) := by
  obtain ⟨i0, hi, hz0, hz1, hz2⟩ := info_parts Tryz.infoD
  exact ⟨Tryz.underlying80, rfl, by omega, i0, hi, hz0, hz1, hz2⟩
theorem sizeD : (Tryz.prog.info? 89).map (·.size) = some 2 := by
  obtain ⟨i0, hi, hz0, hz1, hz2⟩ := info_parts Tryz.infoD
  rw [hi, Option.map_some, hz1]
/-- The cells of a difference in a slice. -/
theorem cells2 {w : World} {ad : Addr} {k : Nat} {x : Nat × Bool} (h : ∀ i, i < 2 → w.cell? (ad.add (k * 2 + i)) = (dc x)[i]?) :
    w.cell? (ad.add (k * 2)) = some (.int .u64 (x.1 : Int)) ∧ w.cell? ⟨(ad.add (k * 2)).block, (ad.add (k * 2)).off + 1, none⟩ = some (.bool x.2) := by
  refine ⟨h 0 (by omega), ?_⟩
  have h1 := h 1 (by omega); rw [← add_add] at h1; exact h1
/-- What between answers. -/
def RetBt (p : Nat × Bool × Bool) (e : Ending) : Prop := e = .returned (.tuple #[dv (dpair p), .bool p.2.2])
theorem ret_pair {fn : Func} {p u : Tmp} (h : fn.results = #[.cell p 89, .tmp u]) (tmps : Array Value) (w : World) (g : Nat) (d : Nat × Bool) (b : Bool)
    (hp : tmps.getD p undef = .pointer (some ⟨g, 0, none⟩)) (hr : Row w g 89 (dc d)) (hu : tmps.getD u undef = .bool b) : (results fn tmps).run Tryz.prog w = .ok (.tuple #[dv d, .bool b]) w :=
  results_row_tmp h tmps w g 89 (dc d).toArray (0, 0) _ _ hp hr Tryz.underlying89 rfl sizeD hu
theorem row_under (w : World) (cs : List Value) (t : TypeId) (o : Obj) : Row ((w.alloc (.cells cs.toArray t)).alloc o) w.heap.size t cs := Row.alloc (heap_alloc_new w _) o
theorem below_two (w : World) (o o' : Obj) : Below w.heap.size w ((w.alloc o).alloc o') := ((Below.refl _ _).alloc (Nat.le_refl _) _).alloc (by simp) _
set_option maxHeartbeats 2000000 in
set_option maxRecDepth 100000 in
theorem between_any (a b : Int) (w : World) (ha : inInt a) (hb : inInt b) : Calls Tryz.prog 112 #[.int .i64 a, .int .i64 b] w fun e w' => RetBt (gdiff a b) e ∧ Below w.heap.size w w' := by
  unfold inInt at ha hb
  obtain ⟨S, hS⟩ : ∃ S : Nat, (S : Int) = IntKind.u64.wrap (b - a) := ⟨(IntKind.u64.wrap (b - a)).toNat, by rw [IntKind.wrap_u64]; omega⟩
  have hS2 : IntKind.u64.wrap (IntKind.u64.wrap b - IntKind.u64.wrap a) = (S : Int) := by rw [hS, IntKind.wrap_u64, IntKind.wrap_u64, IntKind.wrap_u64, IntKind.wrap_u64]; omega
  rw [IntKind.wrap_u64] at hS
  by_cases h : b < a
  · obtain ⟨D, hD⟩ : ∃ D : Nat, (D : Int) = a - b := ⟨(a - b).toNat, by omega⟩
    have hn : IntKind.u64.wrap (-(S : Int)) = (D : Int) := by rw [IntKind.wrap_u64]; omega
    have d1 : decide (b < a) = true := decide_eq_true h
    by_cases h2 : 9223372036854775808 ≤ (D : Int)
    · have hE : Hid (gdiff a b = (0, false, false)) := Lib.hid (by unfold gdiff; rw [if_pos h, if_pos (by omega)])
      have d2 : decide ((9223372036854775807 : Int) < (D : Int)) = true := decide_eq_true (by omega)
      clear hD ha hb hS h2
      go_enter Tryz.func112, Tryz.ntmps112
      go_wp2
      refine bodyPost_ret (ret_pair rfl _ _ _ (0, false) false rfl (row_under _ _ _ _) rfl) rfl ?_
      rw [hE.out]
      exact ⟨rfl, below_two _ _ _⟩
    · have hE : Hid (gdiff a b = (D, true, true)) := Lib.hid (by unfold gdiff; rw [if_pos h, if_neg (by omega)]; congr 1; omega)
      have d2 : decide ((9223372036854775807 : Int) < (D : Int)) = false := decide_eq_false (by omega)
      clear hD ha hb hS h2
      go_enter Tryz.func112, Tryz.ntmps112
      go_wp2
      refine bodyPost_ret (ret_pair rfl _ _ _ (D, true) true rfl (row_under _ _ _ _) rfl) rfl ?_
      rw [hE.out]
      exact ⟨rfl, below_two _ _ _⟩
  · have d1 : decide (b < a) = false := decide_eq_false h
    have hSD : (S : Int) = b - a := by omega
    by_cases h2 : 9223372036854775808 ≤ (S : Int)
    · have hE : Hid (gdiff a b = (0, false, false)) := Lib.hid (by unfold gdiff; rw [if_neg h, if_pos (by omega)])
      have d2 : decide ((9223372036854775807 : Int) < (S : Int)) = true := decide_eq_true (by omega)
      clear ha hb hS h2 hSD
      go_enter Tryz.func112, Tryz.ntmps112
      go_wp2
      refine bodyPost_ret (ret_pair rfl _ _ _ (0, false) false rfl (row_under _ _ _ _) rfl) rfl ?_
      rw [hE.out]
      exact ⟨rfl, below_two _ _ _⟩
    · have hE : Hid (gdiff a b = (S, false, true)) := Lib.hid (by unfold gdiff; rw [if_neg h, if_neg (by omega)]; congr 1; omega)
      have d2 : decide ((9223372036854775807 : Int) < (S : Int)) = false := decide_eq_false (by omega)
      clear ha hb hS h2 hSD
      go_enter Tryz.func112, Tryz.ntmps112
      go_wp2
      refine bodyPost_ret (ret_pair rfl _ _ _ (S, false) true rfl (row_under _ _ _ _) rfl) rfl ?_
      rw [hE.out]
      exact ⟨rfl, below_two _ _ _⟩
set_option maxHeartbeats 2000000 in
set_option maxRecDepth 100000 in
theorem tdiff_any (a b : Int) (w : World) (ha : inInt a) (hb : inInt b) : Calls Tryz.prog 144 #[.int .i64 a, .int .i64 b] w fun e w' => RetD (gdiff a b) e ∧ Below w.heap.size w w' := by
  have HB := Lib.hid (between_any a b w ha hb)
  generalize gdiff a b = p at HB ⊢
  obtain ⟨U, f, ok⟩ := p
  clear ha hb
  go_enter Tryz.func144, Tryz.ntmps144
  go_wp2_with fail
  refine HB.out.mono ?_
  rintro e w1 ⟨rfl, hb1⟩
  unfold dpair dv dc
  dsimp only
  go_wp2
  go_quiet (fail)
  go_wp2
  refine bodyPost_ret (results_tmp3 rfl _ _ _) rfl ?_
  exact ⟨rfl, (hb1.alloc hb1.size _).trans ⟨rfl, rfl, rfl, Nat.le_refl _, fun _ _ => rfl⟩⟩
set_option maxHeartbeats 2000000 in
set_option maxRecDepth 100000 in
theorem step_any (a : Int) (U : Nat) (f : Bool) (w : World) (ha : inInt a) (h1 : (U : Int) < 18446744073709551616) : Calls Tryz.prog 77 #[.int .i64 a, dv (U, f)] w fun e w' => RetG (gstep a U f) e ∧ Below w.heap.size w w' := by
  unfold inInt at ha
  by_cases h2 : 9223372036854775808 ≤ (U : Int)
  · have hE : Hid (gstep a U f = (0, false)) := Lib.hid (by unfold gstep; rw [if_pos h2])
    have d2 : decide ((9223372036854775807 : Int) < (U : Int)) = true := decide_eq_true (by omega)
    clear h2 h1
    unfold dv dc
    dsimp only
    go_enter Tryz.func77, Tryz.ntmps77
    go_wp2
    go_ret2
    rw [hE.out]
    exact ⟨rfl, (Below.refl _ _).alloc (Nat.le_refl _) _⟩
  · have d2 : decide ((9223372036854775807 : Int) < (U : Int)) = false := decide_eq_false (by omega)
    have hw1 : IntKind.i64.wrap (U : Int) = (U : Int) := by rw [IntKind.wrap_i64]; omega
    cases f with
    | true =>
      obtain ⟨M, hM⟩ : ∃ M, M = -(U : Int) := ⟨_, rfl⟩
      have hw2 : IntKind.i64.wrap (-(U : Int)) = M := by rw [IntKind.wrap_i64]; omega
      obtain ⟨b, hb⟩ : ∃ b, b = IntKind.i64.wrap (a + M) := ⟨_, rfl⟩
      have hw3 : IntKind.i64.wrap (a + M) = b := hb.symm
      rw [IntKind.wrap_i64] at hb
      by_cases h3 : a < -9223372036854775808 + (U : Int)
      · have hE : Hid (gstep a U true = (0, false)) := Lib.hid (by unfold gstep; rw [if_neg h2, if_pos rfl, if_pos h3])
        have d3 : decide (b < a) = false := decide_eq_false (by omega)
        have d4 : decide (M < 0) = true := decide_eq_true (by omega)
        clear h2 h1 hM hb h3 ha
        unfold dv dc
        dsimp only
        go_enter Tryz.func77, Tryz.ntmps77
        go_wp2
        go_ret2
        rw [hE.out]
        exact ⟨rfl, (Below.refl _ _).alloc (Nat.le_refl _) _⟩
      · have hE : Hid (gstep a U true = (b, true)) := Lib.hid (by unfold gstep; rw [if_neg h2, if_pos rfl, if_neg h3]; congr 1; omega)
        have d3 : decide (b < a) = decide (M < 0) := by
          by_cases h4 : M < 0
          · rw [decide_eq_true h4]; exact decide_eq_true (by omega)
          · rw [decide_eq_false h4]; exact decide_eq_false (by omega)
        clear h2 h1 hM hb h3 ha
        obtain ⟨d, hd⟩ : ∃ d, d = decide (M < 0) := ⟨_, rfl⟩
        rw [← hd] at d3
        have d4 := hd.symm
        clear hd
        unfold dv dc
        dsimp only
        cases d
        · go_enter Tryz.func77, Tryz.ntmps77
          go_wp2
          go_ret2
          rw [hE.out]
          exact ⟨rfl, (Below.refl _ _).alloc (Nat.le_refl _) _⟩
        · go_enter Tryz.func77, Tryz.ntmps77
          go_wp2
          go_ret2
          rw [hE.out]
          exact ⟨rfl, (Below.refl _ _).alloc (Nat.le_refl _) _⟩
    | false =>
      obtain ⟨b, hb⟩ : ∃ b, b = IntKind.i64.wrap (a + (U : Int)) := ⟨_, rfl⟩
      have hw3 : IntKind.i64.wrap (a + (U : Int)) = b := hb.symm
      rw [IntKind.wrap_i64] at hb
      have d4 : decide ((U : Int) < 0) = false := decide_eq_false (by omega)
      by_cases h3 : 9223372036854775807 - (U : Int) < a
      · have hE : Hid (gstep a U false = (0, false)) := Lib.hid (by unfold gstep; rw [if_neg h2, if_neg (by decide), if_pos h3])
        have d3 : decide (b < a) = true := decide_eq_true (by omega)
        clear h2 h1 hb h3 ha
        unfold dv dc
        dsimp only
        go_enter Tryz.func77, Tryz.ntmps77
        go_wp2
        go_ret2
        rw [hE.out]
        exact ⟨rfl, (Below.refl _ _).alloc (Nat.le_refl _) _⟩
      · have hE : Hid (gstep a U false = (b, true)) := Lib.hid (by unfold gstep; rw [if_neg h2, if_neg (by decide), if_neg h3]; congr 1; omega)
        have d3 : decide (b < a) = false := decide_eq_false (by omega)
        clear h2 h1 hb h3 ha
        unfold dv dc
        dsimp only
        go_enter Tryz.func77, Tryz.ntmps77
        go_wp2
        go_ret2
        rw [hE.out]
        exact ⟨rfl, (Below.refl _ _).alloc (Nat.le_refl _) _⟩
theorem tstep_any (a U : Int) (f : Bool) (w : World) (ha : inInt a) (h0 : 0 ≤ U) (h1 : U < 18446744073709551616) : Calls Tryz.prog 129 #[.int .i64 a, .int .u64 U, .bool f] w fun e w' => RetG (gstep a U.toNat f) e ∧ Below w.heap.size w w' := by
  obtain ⟨N, hN⟩ : ∃ N : Nat, U = (N : Int) := ⟨U.toNat, by omega⟩
  subst hN
  have HS := Lib.hid (step_any a N f w ha h1)
  clear ha h0 h1
  rw [Int.toNat_natCast]
  unfold dv dc at HS
  dsimp only at HS
  go_enter Tryz.func129, Tryz.ntmps129
  go_wp2_with fail
  refine HS.out.mono ?_
  rintro e w1 ⟨rfl, hb1⟩
  go_wp2
  go_ret2
  exact ⟨rfl, hb1⟩
theorem tcount_yes (n : Int) (w : World) (h0 : 2 ≤ n) (h1 : n ≤ 512) : Calls Tryz.prog 72 #[.int .i64 n] w fun e w' => e = .returned (.bool true) ∧ w = w' := by
  go_enter Tryz.func72, Tryz.ntmps72
  go_wp2
  go_ret
  exact ⟨rfl, rfl⟩
theorem tcount_no (n : Int) (w : World) (h : n < 2 ∨ 512 < n) : Calls Tryz.prog 72 #[.int .i64 n] w fun e w' => e = .returned (.bool false) ∧ w = w' := by
  rcases h with h | h
  · have h2 : decide (2 ≤ n) = false := by simp; omega
    go_enter Tryz.func72, Tryz.ntmps72
    go_wp2
    go_ret
    exact ⟨rfl, rfl⟩
  · have h2 : decide (n ≤ 512) = false := by simp; omega
    have h3 : decide (2 ≤ n) = true := by simp; omega
    go_enter Tryz.func72, Tryz.ntmps72
    go_wp2
    go_ret
    exact ⟨rfl, rfl⟩
/-- The least of some numbers. -/
def lmin : List Int → Int
  | [] => 0
  | x :: xs => xs.foldl min x
theorem lmin_snoc {l : List Int} (hl : l ≠ []) (x : Int) : lmin (l ++ [x]) = min (lmin l) x := by
  cases l with
  | nil => exact absurd rfl hl
  | cons y ys => simp [lmin, List.foldl_append]
theorem lmin_neg {l : List Int} (hl : l ≠ []) : lmin l < 0 ↔ ∃ x ∈ l, x < 0 := by
  cases l with
  | nil => exact absurd rfl hl
  | cons y ys =>
    show ys.foldl min y < 0 ↔ _
    induction ys generalizing y with
    | nil => simp
    | cons z zs ih =>
      rw [List.foldl_cons, ih (min y z) (by simp)]
      simp only [List.mem_cons, exists_eq_or_imp]
      constructor
      · rintro (h | h)
        · rcases (by omega : y < 0 ∨ z < 0) with h | h
          · exact .inl h
          · exact .inr (.inl h)
        · exact .inr (.inr h)
      · rintro (h | h | h)
        · exact .inl (by omega)
        · exact .inl (by omega)
        · exact .inr h
def MinRel (l : List Int) (m i : Value) : Prop := ∃ (k : Nat) (x : Int), 1 ≤ k ∧ k ≤ l.length ∧ i = .int .i64 (k : Int) ∧ m = .int .i64 x ∧ x = lmin (l.take k)
set_option maxRecDepth 100000 in
theorem min_any (l : List Int) (v : Value) (w : World) (hv : IsV iv l v w) (h1 : 1 ≤ l.length) (hb : l.length ≤ 1000000) :
    Calls Tryz.prog 73 #[v] w fun e w' => e = .returned (.int .i64 (lmin l)) ∧ w = w' := by
  obtain ⟨A, n, c, rfl⟩ := hv.shape
  have HN := Lib.hid hv.len
  have HV := Lib.hid hv
  have hn : 1 ≤ n := by have := HN.out; omega
  have hn6 : n ≤ 1000000 := by have := HN.out; omega
  obtain ⟨ad, rfl, _, h0⟩ := hv.at (k := 0) h1
  obtain ⟨x0, hx0⟩ : ∃ x, x = l[0] := ⟨_, rfl⟩
  have h0' : w.cell? ad = some (.int .i64 l[0]) := by have := h0; simp [Addr.add, iv] at this; exact this
  have HS := Lib.hid (show MinRel l (.int .i64 l[0]) (.int .i64 1) from ⟨1, _, Nat.le_refl _, h1, rfl, rfl, by cases l with | nil => simp at h1 | cons a t => simp [lmin]⟩)
  rw [← hx0] at h0' HS
  clear hv h1 hb h0 hx0
  go_enter Tryz.func73, Tryz.ntmps73
  go_wp2
  go_loop [3, 4] (MinRel l) (fun _ i => n - (intOf i).toNat)
  case atStart => exact HS.out
  case round =>
    obtain ⟨k, x, hk1, hk2, rfl, rfl, hx⟩ := hrel
    have HX := Lib.hid hx
    have hkn : k ≤ n := by have := HN.out; omega
    clear hx
    by_cases hlt : k < n
    · have hkl : k < l.length := by have := HN.out; omega
      have hlti : (k : Int) < (n : Int) := by omega
      obtain ⟨ad', had, _, hc⟩ := HV.out.at hkl
      injection had with had
      subst had
      obtain ⟨y, hy⟩ : ∃ y, y = l[k] := ⟨_, rfl⟩
      rw [← hy] at hc
      unfold iv at hc
      obtain ⟨z, hz⟩ : ∃ z, z = min x y := ⟨_, rfl⟩
      have hmin : ∀ (ts : Array TypeId) (t : TypeId) (W : World), (Builtin.min_ ts t #[.int .i64 x, .int .i64 y]).run Tryz.prog W = .ok (.int .i64 z) W := fun ts t W => by
        rw [run_min_int2]
        congr 2
        rw [hz]
        split <;> omega
      have HR := Lib.hid (show MinRel l (.int .i64 z) (.int .i64 ((k + 1 : Nat) : Int)) from ⟨k + 1, _, by omega, hkl, rfl, rfl, by
        rw [List.take_succ_eq_append_getElem hkl, lmin_snoc (by intro h0; have h1 := congrArg List.length h0; rw [List.length_take, List.length_nil] at h1; omega), ← HX.out, ← hy, hz]⟩)
      clear hy hz
      go_wp2
      go_round
      case rel => exact HR.out
      case measure => simp [intOf]; omega
    · obtain rfl : k = n := by omega
      go_wp2
      go_ret
      refine ⟨?_, rfl⟩
      rw [HX.out, List.take_of_length_le (by have := HN.out; omega)]
      rfl
/-- Differences that a call answers, in a row of its own. -/
def diffAt (l : List Int) (i : Nat) : Nat × Bool × Bool := gdiff (l.getD i 0) (l.getD (i + 1) 0)
def AreRel (l : List (Nat × Bool)) (w : World) (i : Value) (wr : World) : Prop := ∃ k : Nat, k ≤ l.length ∧ i = .int .i64 (k : Int) ∧ (∀ j, j < k → l[j]? = l[0]?) ∧ Below w.heap.size w wr
/-- Is each the first one? -/
def dsame (l : List (Nat × Bool)) : Bool := l.all fun d => d == l.headD (0, false)
theorem dsame_yes {l : List (Nat × Bool)} (h : ∀ j, j < l.length → l[j]? = l[0]?) : dsame l = true := by
  unfold dsame
  rw [List.all_eq_true]
  intro d hd
  obtain ⟨j, hj, rfl⟩ := List.getElem_of_mem hd
  have h1 := h j hj
  rw [List.getElem?_eq_getElem hj] at h1
  cases l with
  | nil => simp at hj
  | cons a t => simp at h1; simp [h1]
theorem dsame_no {l : List (Nat × Bool)} {j : Nat} (hj : j < l.length) (h : l[j]? ≠ l[0]?) : dsame l = false := by
  unfold dsame
  rw [List.all_eq_false]
  refine ⟨l[j], List.getElem_mem hj, ?_⟩
  rw [List.getElem?_eq_getElem hj] at h
  cases l with
  | nil => simp at hj
  | cons a t => simp at h; simpa using h
theorem eqD (a b : Nat × Bool) (w : World) : (Op.equalIn 10000 89 (dv a) (dv b)).run Tryz.prog w = .ok (a == b) w := by
  have hS : Tryz.prog.underlying 89 = some (.struct (Tryz.prog.fieldsOf 89)) := by kernel_rfl
  have hp : Tryz.prog.stoodInHeld 89 = false := by kernel_rfl
  obtain ⟨au, af⟩ := a
  obtain ⟨bu, bf⟩ := b
  unfold dv dc
  have u1 := Tryz.underlying53
  have u2 := Tryz.underlying4
  have s1 := Tryz.sizeOf53
  have s2 := Tryz.sizeOf4
  have g1 := Tryz.isAgg53
  have g2 := Tryz.isAgg4
  rw [show (10000 : Nat) = 9999 + 1 from rfl, run_equalIn_agg w 9999 89 _ _ hS hp]
  simp only [Program.fieldsOf, Tryz.underlying89]
  go_simp
  by_cases h1 : au = bu
  · subst h1
    rw [if_pos rfl]
    cases af <;> cases bf <;> simp
  · have h3 : ¬ (au : Int) = (bu : Int) := by omega
    rw [if_neg h3]
    have h4 : ((au, af) == (bu, bf)) = false := by
      rw [beq_eq_false_iff_ne]
      intro h
      injection h with h _
      exact h1 h
    rw [h4]
theorem gives_neqD {o : Oper} {ρ : Operand → Value} {w : World} {R : Value → World → Prop} {x y : Operand} {a b : Nat × Bool} (ho : o.op = .binOp .neq 89 x y 89) (hx : ρ x = dv a) (hy : ρ y = dv b)
    (hR : R (.bool (!(a == b))) w) : Gives Tryz.prog o ρ w R := by
  refine gives_of (v := .bool (!(a == b))) (w' := w) ?_ hR
  have hg := run_eqGuard_agg (P := Tryz.prog) w .neq 89 x y (dc a).toArray (dc b).toArray (by kernel_rfl)
  have hq := run_neq_struct (P := Tryz.prog) w 89 (dc a).toArray (dc b).toArray
  have he := eqD a b w
  unfold dv at he
  rw [he] at hq
  unfold dv at hx hy
  simp [execOp, ho, hx, hy, hg, hq]
set_option maxHeartbeats 2000000 in
set_option maxRecDepth 100000 in
theorem aresame_any (l : List (Nat × Bool)) (v : Value) (w : World) (hv : IsR dc l v w) (hb : l.length ≤ 1000000) :
    Calls Tryz.prog 115 #[v] w fun e w' => e = .returned (.bool (dsame l)) ∧ Below w.heap.size w w' := by
  obtain ⟨A, n, c, rfl⟩ := hv.shape
  have HN := Lib.hid hv.parts.1
  have HV := Lib.hid hv
  have hn6 : n ≤ 1000000 := by have := HN.out; omega
  have HS := Lib.hid (show AreRel l w (.int .i64 0) w from ⟨0, Nat.zero_le _, rfl, fun j hj => by omega, Below.refl _ _⟩)
  clear hv hb
  go_enter Tryz.func115, Tryz.ntmps115
  go_wp2
  go_loopw [7] (AreRel l w) (fun i _ => n - (intOf i).toNat)
  case atStart => exact HS.out
  case round =>
    obtain ⟨k, hk, rfl, hs, hbw⟩ := hrel
    have HSM := Lib.hid hs
    have HB := Lib.hid hbw
    have hkn : k ≤ n := by have := HN.out; omega
    clear hs hk
    by_cases hlt : k < n
    · have hkl : k < l.length := by have := HN.out; omega
      have h0l : 0 < l.length := by omega
      have hlti : (k : Int) < (n : Int) := by omega
      have h0i : (0 : Int) < (n : Int) := by omega
      obtain ⟨ad, rfl, had, hcell⟩ := (HV.out.below hbw).at (m := 2) dc_len (by omega) hkl
      obtain ⟨x, hx⟩ : ∃ x, x = l[k] := ⟨_, rfl⟩
      rw [← hx] at hcell
      have k0 := cells2 hcell
      have HX := Lib.hid hx
      obtain ⟨xu, xf⟩ := x
      dsimp only at k0
      obtain ⟨k1, k2⟩ := k0
      clear hcell hx hbw
      have HR := Lib.hid (show Row (wr.alloc (.cells #[.int .u64 (xu : Int), .bool xf] 89)) wr.heap.size 89 (dc (xu, xf)) from heap_alloc_new wr _)
      have HBA := Lib.hid (HB.out.alloc HB.out.size (.cells #[.int .u64 (xu : Int), .bool xf] 89))
      obtain ⟨y, hy⟩ : ∃ y, y = l[0] := ⟨_, rfl⟩
      have HY := Lib.hid hy
      clear hy
      obtain ⟨b, hb⟩ : ∃ b, b = !((xu, xf) == y) := ⟨_, rfl⟩
      have HEQ := Lib.hid hb
      clear hb
      go_wp2
      refine wp_region_list [.is (dv (xu, xf)), .is (.slice (some ad) n c), .is (.pointer (some (ad.add (0 * 2)))), .is (dv y), .is (.bool b)] [some 11, some 12, some 13, some 14, some 15] (by kernel_rfl) (by kernel_rfl) (by kernel_rfl) rfl ⟨?_, ?_, ?_, ?_, ?_, trivial⟩ ?_
      · intro ρ W1 hb1 H
        exact gives_load_row (cs := dc (xu, xf)) rfl (H.old 4 _ (by kernel_rfl) rfl) Tryz.underlying89 rfl sizeD (HR.out.below hb1 HR.out.lt) ⟨rfl, Below.refl _ _⟩
      · intro ρ W1 hb1 H
        exact gives_move rfl (H.old 0 _ (by kernel_rfl) rfl) ⟨rfl, Below.refl _ _⟩
      · intro ρ W1 hb1 H
        exact gives_index_wide (k := 0) Tryz.underlying80 Tryz.sizeOf89 rfl (H.new 12 1 (by kernel_rfl)) (H.const _) (by omega) ⟨rfl, Below.refl _ _⟩
      · intro ρ W1 hb1 H
        obtain ⟨ad0, had0, had1, hcell0⟩ := (HV.out.below (HBA.out.trans (hb1.mono HBA.out.size))).at (m := 2) dc_len (by omega) h0l
        injection had0 with had0
        subst had0
        exact gives_load_wide (cs := dc y) rfl (H.new 13 2 (by kernel_rfl)) Tryz.underlying89 rfl Tryz.sizeOf89 (fun j v hj => by
          have hj2 : j < 2 := by have := (List.getElem?_eq_some_iff.1 hj).1; exact this
          have h := hcell0 j hj2
          rw [← HY.out] at h
          rw [add_add]
          exact h.trans hj) ⟨rfl, Below.refl _ _⟩
      · intro ρ W1 hb1 H
        exact gives_neqD rfl (H.new 11 0 (by kernel_rfl)) (H.new 14 3 (by kernel_rfl)) ⟨by rw [HEQ.out]; rfl, Below.refl _ _⟩
      · intro vs W1 hb1 hfs
        have f4 : vs 4 = .bool b := hfs 4 (by decide)
        clear hfs
        simp only [putAll, Nat.zero_add, Nat.reduceAdd]
        generalize vs 0 = z0
        generalize vs 1 = z1
        generalize vs 2 = z2
        generalize vs 3 = z3
        simp only [f4, Act.put, List.setIfInBounds_toArray, List.set_cons_succ, List.set_cons_zero]
        have HB1 := Lib.hid (HBA.out.trans (hb1.mono HBA.out.size))
        clear f4 hb1
        cases b with
        | true =>
          have HD := Lib.hid (show dsame l = false from dsame_no hkl (by
            rw [List.getElem?_eq_getElem hkl, List.getElem?_eq_getElem h0l, ← HX.out, ← HY.out]
            intro h
            injection h with h
            rw [h] at HEQ
            have := HEQ.out
            simp at this))
          go_wp2
          go_ret
          rw [HD.out]
          exact ⟨rfl, HB1.out⟩
        | false =>
          have HK := Lib.hid (show ∀ j, j < k + 1 → l[j]? = l[0]? from fun j hj => by
            rcases (by omega : j < k ∨ j = k) with h | rfl
            · exact HSM.out j h
            · rw [List.getElem?_eq_getElem hkl, List.getElem?_eq_getElem h0l, ← HX.out, ← HY.out]
              have := HEQ.out
              simp at this
              rw [this])
          go_wp2
          go_roundw
          case rel => exact ⟨k + 1, hkl, by go_num, HK.out, HB1.out⟩
          case measure => simp [intOf]; omega
    · obtain rfl : k = n := by omega
      have HD := Lib.hid (dsame_yes (l := l) (fun j hj => HSM.out j (by have := HN.out; omega)))
      go_wp2
      go_ret
      rw [HD.out]
      exact ⟨rfl, HB.out⟩
end Go.Proofs.YtnbiopihcbnkpaaGreatDoor

/- patched's own contracts: lowest, isCount, isWidth, and a shape's methods hasRoom and pairWidth. -/







namespace Go.Proofs.YtnbiopihcbnkpaaGreatDoor

open Go.RowKit

theorem plow_any (n L : Nat) (w : World) (h : n ≤ 64) (hL : L = 2 ^ n - 1) : Calls Tryz.prog 131 #[.int .i64 (n : Int)] w fun e w' => e = .returned (.int .u64 (L : Int)) ∧ w = w' := by
  have h1 : 2 ^ n ≤ 2 ^ 64 := Nat.pow_le_pow_right (by omega) h
  have h2 : 1 ≤ 2 ^ n := Nat.one_le_two_pow
  have h3 : ((2 ^ n : Nat) : Int) = 2 ^ n := by simp
  have HE : Hid (IntKind.u64.wrap (IntKind.u64.wrap (2 ^ n) - 1) = (L : Int)) := Lib.hid (by
    rw [← h3, IntKind.wrap_u64, IntKind.wrap_u64, hL]
    generalize 2 ^ n = p at *
    omega)
  clear h1 h2 h3 hL
  go_enter Tryz.func131, Tryz.ntmps131
  go_wp2
  go_ret
  exact ⟨ret_int HE.out, rfl⟩
theorem pcount_yes (n : Int) (w : World) (h0 : 1 ≤ n) (h1 : n ≤ 512) : Calls Tryz.prog 119 #[.int .i64 n] w fun e w' => e = .returned (.bool true) ∧ w = w' := by
  go_enter Tryz.func119, Tryz.ntmps119
  go_wp2
  go_ret
  exact ⟨rfl, rfl⟩
theorem pcount_no (n : Int) (w : World) (h : n < 1 ∨ 512 < n) : Calls Tryz.prog 119 #[.int .i64 n] w fun e w' => e = .returned (.bool false) ∧ w = w' := by
  rcases h with h | h
  · have h2 : decide (1 ≤ n) = false := by simp; omega
    go_enter Tryz.func119, Tryz.ntmps119
    go_wp2
    go_ret
    exact ⟨rfl, rfl⟩
  · have h2 : decide (n ≤ 512) = false := by simp; omega
    have h3 : decide (1 ≤ n) = true := by simp; omega
    go_enter Tryz.func119, Tryz.ntmps119
    go_wp2
    go_ret
    exact ⟨rfl, rfl⟩
theorem pisw_any (W : Int) (w : World) (ht : WTab w) : Calls Tryz.prog 120 #[.int .i64 W] w fun e w' => e = .returned (.bool (decide (W < 64) && decide (0 ≤ wcode W))) ∧ w = w' := by
  have HC := Lib.hid (code_any W w ht)
  obtain ⟨c, hc⟩ : ∃ c, c = wcode W := ⟨_, rfl⟩
  rw [← hc] at HC ⊢
  clear ht hc
  by_cases h : W < 64
  · have h1 : decide (W < 64) = true := decide_eq_true h
    rw [h1, Bool.true_and]
    obtain ⟨d, hd⟩ : ∃ d, d = decide (0 ≤ c) := ⟨_, rfl⟩
    have hd' := hd.symm
    rw [hd']
    clear hd h
    go_enter Tryz.func120, Tryz.ntmps120
    go_wp2_with (go_at_call 67; refine HC.out.mono ?_; rintro e w' ⟨rfl, rfl⟩)
    go_ret
    exact ⟨rfl, rfl⟩
  · have h1 : decide (W < 64) = false := decide_eq_false h
    rw [h1, Bool.false_and]
    clear h
    go_enter Tryz.func120, Tryz.ntmps120
    go_wp2
    go_ret
    exact ⟨rfl, rfl⟩
/-- A shape's cells. -/
def shc (m W n p g t : Int) : List Value := [.int .i64 m, .int .i64 W, .int .i64 n, .int .i64 p, .int .i64 g, .int .i64 t]
def shv (m W n p g t : Int) : Value := .agg (shc m W n p g t).toArray
theorem shc_one (m W n p g t : Int) : ∀ u ∈ shc m W n p g t, u.oneCell' = true := by
  intro u hu
  simp only [shc, List.mem_cons, List.not_mem_nil, or_false] at hu
  rcases hu with h | h | h | h | h | h <;> (subst h; rfl)
theorem proom_any (m W n p g t : Int) (w : World) (hp : 0 ≤ p ∧ p ≤ 1000) (hg : 0 ≤ g ∧ g ≤ 1000) : Calls Tryz.prog 125 #[shv m W n p g t] w fun e w' => e = .returned (.bool (decide (g + p ≤ 64))) ∧ Below w.heap.size w w' := by
  have hw : IntKind.i64.wrap (g + p) = g + p := by rw [IntKind.wrap_i64]; omega
  obtain ⟨x, hx⟩ : ∃ x, x = g + p := ⟨_, rfl⟩
  rw [← hx] at hw ⊢
  have hx' := hx.symm
  obtain ⟨d, hd⟩ : ∃ d, d = decide (x ≤ 64) := ⟨_, rfl⟩
  have hd' := hd.symm
  rw [hd']
  clear hx hd hp hg
  unfold shv shc
  go_enter Tryz.func125, Tryz.ntmps125
  go_wp2
  go_ret
  exact ⟨rfl, (Below.refl _ _).alloc (Nat.le_refl _) _⟩
theorem ppair_any (m W n p g t : Int) (w : World) (ht : WTab w) (hp : 0 ≤ p ∧ p ≤ 1000) (hg : 0 ≤ g ∧ g ≤ 1000) : Calls Tryz.prog 87 #[shv m W n p g t] w fun e w' => e = .returned (.int .i64 (wclosest (g + p))) ∧ Below w.heap.size w w' := by
  have hw : IntKind.i64.wrap (g + p) = g + p := by rw [IntKind.wrap_i64]; omega
  obtain ⟨x, hx⟩ : ∃ x, x = g + p := ⟨_, rfl⟩
  rw [← hx] at hw ⊢
  have hx' := hx.symm
  have HC := Lib.hid (fun W (h : WTab W) => closest_any x W h)
  have HT := Lib.hid (ht.below ((Below.refl w.heap.size w).alloc (Nat.le_refl _) (.cells (shc m W n p g t).toArray 98)) ht.lt)
  unfold shc at HT
  clear hx hp hg ht
  unfold shv shc
  go_enter Tryz.func87, Tryz.ntmps87
  go_wp2_with (go_at_call 63; refine (HC.out _ HT.out).mono ?_; rintro e w' ⟨rfl, rfl⟩)
  go_ret
  exact ⟨rfl, (Below.refl _ _).alloc (Nat.le_refl _) _⟩
end Go.Proofs.YtnbiopihcbnkpaaGreatDoor

/- patched's own contracts: sizesFrom, numbersFrom. -/



namespace Go.Proofs.YtnbiopihcbnkpaaGreatDoor

open Go.RowKit

/-- Numbers in a row of the call's own, or none. -/
def RetSz (o : Option (List Nat)) (w : World) (e : Ending) (w' : World) : Prop :=
  match o with
  | none => e = .returned (.tuple #[.slice none 0 0, .bool false]) ∧ Below w.heap.size w w'
  | some us => ∃ g, e = .returned (.tuple #[.slice (some ⟨g, 0, none⟩) us.length us.length, .bool true]) ∧ w.heap.size ≤ g ∧ Row w' g 53 (us.map uv) ∧ Below w.heap.size w w'
def RetNb (o : Option (List Int)) (w : World) (e : Ending) (w' : World) : Prop :=
  match o with
  | none => e = .returned (.tuple #[.slice none 0 0, .bool false]) ∧ Below w.heap.size w w'
  | some xs => ∃ v, e = .returned (.tuple #[v, .bool true]) ∧ IsV iv xs v w' ∧ Below w.heap.size w w'
set_option maxHeartbeats 2000000 in
set_option maxRecDepth 100000 in
theorem sizes_any (base : Int) (l : List Int) (v : Value) (w : World) (hv : IsV iv l v w) (hbi : inInt base) (hl : ∀ x ∈ l, inInt x) (hb : l.length ≤ 1000000) :
    Calls Tryz.prog 122 #[.int .i64 base, v] w (RetSz (omap (pone base) l) w) := by
  obtain ⟨A, n, c, rfl⟩ := hv.shape
  have HN := Lib.hid hv.parts.1
  have HV := Lib.hid hv
  have HL := Lib.hid hl
  have hn6 : n ≤ 1000000 := by have := HN.out; omega
  clear hv hl hb
  go_enter Tryz.func122, Tryz.ntmps122
  go_wp2_with (refine wpList_make elemU rfl _ _ rfl _ _ _ _ n w w.heap.size rfl rfl rfl rfl (by omega) (by omega) (Below.refl _ _) (Nat.le_refl _) ?_)
  intro w1 hr1 hb1
  have HS := Lib.hid (show FillRel (pone base) uv (uv 0) 53 l w (.int .i64 0) w1 from ⟨0, [], Nat.zero_le _, rfl, rfl, by rw [Nat.sub_zero, HN.out]; simpa [uv] using hr1, hb1⟩)
  clear hr1 hb1
  go_wp2
  go_loopw [17] (FillRel (pone base) uv (uv 0) 53 l w) (fun i _ => n - (intOf i).toNat)
  case atStart => exact HS.out
  case round =>
    obtain ⟨k, acc, hk, rfl, hacc, hr, hbw⟩ := hrel
    have hal : acc.length = k := by rw [omap_len hacc, List.length_take]; omega
    rw [HN.out] at hr
    have HACC := Lib.hid hacc
    have HAL := Lib.hid hal
    have HB := Lib.hid hbw
    have HR := Lib.hid hr
    have hk' : k ≤ n := by have := HN.out; omega
    clear hacc hal hk hr
    by_cases hlt : k < n
    · have hkl : k < l.length := by have := HN.out; omega
      have hlti : (k : Int) < (n : Int) := by omega
      obtain ⟨ad, rfl, _, hcell⟩ := (HV.out.below hbw).at hkl
      obtain ⟨x, hx⟩ : ∃ x, x = l[k] := ⟨_, rfl⟩
      have hcx : wr.cell? (ad.add k) = some (.int .i64 x) := by rw [hcell, hx]; rfl
      have hxb : inInt x := by rw [hx]; exact HL.out _ (List.getElem_mem hkl)
      have HX := Lib.hid hx
      have HD := Lib.hid (tdiff_any base x wr hbi hxb)
      obtain ⟨u, d, o, hg⟩ : ∃ u d o, gdiff base x = (u, d, o) := ⟨_, _, _, rfl⟩
      rw [hg] at HD
      have HP := Lib.hid (show pone base x = if o = true then some u else none by unfold pone; rw [hg])
      clear hcell hx hxb hg hbw
      go_wp2_with fail
      refine HD.out.mono ?_
      rintro e w2 ⟨rfl, hb2⟩
      have HB2 := Lib.hid (below_then HB.out hb2)
      cases o with
      | false =>
        have hE := Lib.hid (show omap (pone base) l = none from omap_none (x := x) (by rw [HX.out]; exact List.getElem_mem hkl) (by rw [HP.out]; rfl))
        clear hb2
        go_wp2
        go_ret2
        rw [hE.out]
        exact ⟨rfl, HB2.out⟩
      | true =>
        have hnext := Lib.hid (show omap (pone base) (l.take (k + 1)) = some (acc ++ [u]) from omap_take hkl HACC.out (by rw [← HX.out, HP.out]; rfl))
        have hr2 := HR.out.below hb2 HR.out.lt
        have hfx := hr2.free k
        have hcu : ∃ y, w2.cell? ⟨w.heap.size, k, none⟩ = some y := by
          rw [hr2.cell]
          exact ⟨_, List.getElem?_eq_getElem (by rw [List.length_append, List.length_map, List.length_replicate]; have := HAL.out; omega)⟩
        obtain ⟨u0, hcu⟩ := hcu
        have hset := hr2.set_ k (uv u)
        rw [fill_step hlt HAL.out] at hset
        have HSET := Lib.hid hset
        have HB3 := Lib.hid (HB2.out.setCell (p := ⟨w.heap.size, k, none⟩) (Nat.le_refl _) (uv u))
        clear hset hr2 hb2
        go_wp2
        go_roundw
        case rel => exact ⟨k + 1, _, hkl, by go_num, hnext.out, by rw [HN.out]; exact HSET.out, HB3.out⟩
        case measure => simp [intOf]; omega
    · obtain rfl : k = n := by omega
      have hlti : ¬ (k : Int) < (k : Int) := by omega
      have hE : Hid (omap (pone base) l = some acc) := Lib.hid (by
        have h1 := HACC.out
        rwa [List.take_of_length_le (by have := HN.out; omega)] at h1)
      have hr := HR.out
      rw [Nat.sub_self, List.replicate_zero, List.append_nil] at hr
      have HRR := Lib.hid hr
      clear hr hbw
      go_wp2
      go_ret2
      rw [hE.out]
      exact ⟨w.heap.size, by rw [HAL.out]; rfl, Nat.le_refl _, HRR.out, HB.out⟩
theorem gnext_is {s f : Bool} {x : Int} {u : Nat} {z : Int} {ok : Bool} (h : gstep x u f = (z, ok)) : gnext s f x u = if ok = true ∧ (s = true ∨ 0 ≤ z) then some z else none := by
  unfold gnext
  rw [h]
set_option maxHeartbeats 4000000 in
set_option maxRecDepth 100000 in
theorem numbers_from (base : Int) (us : List Nat) (v : Value) (s : Bool) (w : World) (hv : IsV uv us v w) (hbi : inInt base) (hu : ∀ u ∈ us, u < 2 ^ 64) (hb : us.length ≤ 1000000) :
    Calls Tryz.prog 89 #[.int .i64 base, v, .bool s] w (RetNb (omap (gnext s false base) us) w) := by
  obtain ⟨A, n, c, rfl⟩ := hv.shape
  have HN := Lib.hid hv.parts.1
  have HV := Lib.hid hv
  have HL := Lib.hid hu
  have hn6 : n ≤ 1000000 := by have := HN.out; omega
  clear hv hu hb
  go_enter Tryz.func89, Tryz.ntmps89
  go_wp2_with (refine wpList_make elemI rfl _ _ rfl _ _ _ _ n w w.heap.size rfl rfl rfl rfl (by omega) (by omega) (Below.refl _ _) (Nat.le_refl _) ?_)
  intro w1 hr1 hb1
  have HS := Lib.hid (show FillRel (gnext s false base) iv (iv 0) 3 us w (.int .i64 0) w1 from ⟨0, [], Nat.zero_le _, rfl, rfl, by rw [Nat.sub_zero, HN.out]; simpa [iv] using hr1, hb1⟩)
  clear hr1 hb1
  go_wp2
  go_loopw [18] (FillRel (gnext s false base) iv (iv 0) 3 us w) (fun i _ => n - (intOf i).toNat)
  case atStart => exact HS.out
  case round =>
    obtain ⟨k, acc, hk, rfl, hacc, hr, hbw⟩ := hrel
    have hal : acc.length = k := by rw [omap_len hacc, List.length_take]; omega
    rw [HN.out] at hr
    have HACC := Lib.hid hacc
    have HAL := Lib.hid hal
    have HB := Lib.hid hbw
    have HR := Lib.hid hr
    have hk' : k ≤ n := by have := HN.out; omega
    clear hacc hal hk hr
    by_cases hlt : k < n
    · have hkl : k < us.length := by have := HN.out; omega
      have hlti : (k : Int) < (n : Int) := by omega
      obtain ⟨ad, rfl, _, hcell⟩ := (HV.out.below hbw).at hkl
      obtain ⟨x, hx⟩ : ∃ x, x = us[k] := ⟨_, rfl⟩
      have hcx : wr.cell? (ad.add k) = some (.int .u64 (x : Int)) := by rw [hcell, hx]; rfl
      have hxb : x < 18446744073709551616 := by rw [hx]; exact HL.out _ (List.getElem_mem hkl)
      have HX := Lib.hid hx
      have HD := Lib.hid (tstep_any base (x : Int) false wr hbi (by omega) (by omega))
      rw [Int.toNat_natCast] at HD
      obtain ⟨z, o, hg⟩ : ∃ z o, gstep base x false = (z, o) := ⟨_, _, rfl⟩
      rw [hg] at HD
      have HP := Lib.hid (gnext_is (s := s) hg)
      clear hcell hx hxb hg hbw
      go_wp2_with fail
      refine HD.out.mono ?_
      rintro e w2 ⟨rfl, hb2⟩
      have HB2 := Lib.hid (below_then HB.out hb2)
      by_cases hok : o = true ∧ (s = true ∨ 0 ≤ z)
      · have hnext := Lib.hid (show omap (gnext s false base) (us.take (k + 1)) = some (acc ++ [z]) from omap_take hkl HACC.out (by rw [← HX.out, HP.out, if_pos hok]))
        have hr2 := HR.out.below hb2 HR.out.lt
        have hfx := hr2.free k
        have hcu : ∃ y, w2.cell? ⟨w.heap.size, k, none⟩ = some y := by
          rw [hr2.cell]
          exact ⟨_, List.getElem?_eq_getElem (by rw [List.length_append, List.length_map, List.length_replicate]; have := HAL.out; omega)⟩
        obtain ⟨u0, hcu⟩ := hcu
        have hset := hr2.set_ k (iv z)
        rw [fill_step hlt HAL.out] at hset
        have HSET := Lib.hid hset
        have HB3 := Lib.hid (HB2.out.setCell (p := ⟨w.heap.size, k, none⟩) (Nat.le_refl _) (iv z))
        obtain ⟨rfl, hsz⟩ := hok
        clear hset hr2 hb2
        cases s with
        | true =>
          obtain ⟨d, hd⟩ : ∃ d, decide (z < 0) = d := ⟨_, rfl⟩
          cases d
          all_goals
            go_wp2
            go_roundw
            case rel => exact ⟨k + 1, _, hkl, by go_num, hnext.out, by rw [HN.out]; exact HSET.out, HB3.out⟩
            case measure => simp [intOf]; omega
        | false =>
          have d3 : decide (z < 0) = false := decide_eq_false (by rcases hsz with h | h <;> first | cases h | omega)
          clear hsz
          go_wp2
          go_roundw
          case rel => exact ⟨k + 1, _, hkl, by go_num, hnext.out, by rw [HN.out]; exact HSET.out, HB3.out⟩
          case measure => simp [intOf]; omega
      · have hE := Lib.hid (show omap (gnext s false base) us = none from omap_none (x := x) (by rw [HX.out]; exact List.getElem_mem hkl) (by rw [HP.out, if_neg hok]))
        clear hb2
        cases o with
        | false =>
          clear hok
          go_wp2
          go_ret2
          rw [hE.out]
          exact ⟨rfl, HB2.out⟩
        | true =>
          obtain ⟨rfl, d3⟩ : s = false ∧ decide (z < 0) = true := by
            cases s
            · exact ⟨rfl, decide_eq_true (by refine Int.not_le.1 fun h => hok ⟨rfl, .inr h⟩)⟩
            · exact absurd ⟨rfl, .inl rfl⟩ hok
          clear hok
          go_wp2
          go_ret2
          rw [hE.out]
          exact ⟨rfl, HB2.out⟩
    · obtain rfl : k = n := by omega
      have hlti : ¬ (k : Int) < (k : Int) := by omega
      have hE : Hid (omap (gnext s false base) us = some acc) := Lib.hid (by
        have h1 := HACC.out
        rwa [List.take_of_length_le (by have := HN.out; omega)] at h1)
      have hr := HR.out
      rw [Nat.sub_self, List.replicate_zero, List.append_nil] at hr
      have HRR := Lib.hid (isV_row hr HAL.out (by omega))
      clear hr hbw
      go_wp2
      go_ret2
      rw [hE.out]
      exact ⟨_, rfl, HRR.out, HB.out⟩
end Go.Proofs.YtnbiopihcbnkpaaGreatDoor

/- patched's own contracts: digitsOf (a base as bytes), number (the base that bytes are). -/





namespace Go.Proofs.YtnbiopihcbnkpaaGreatDoor

open Go.RowKit

theorem gdiff_base {base : Int} (hb : inInt base) (hne : base ≠ -9223372036854775808) : gdiff 0 base = (psize base, decide (base < 0), true) := by
  unfold inInt at hb
  unfold psize
  rcases gdiff_cases 0 base with ⟨_, k⟩ | ⟨k1, _, k⟩ | ⟨k1, _, k⟩
  · omega
  · rw [k, decide_eq_true k1]
  · rw [k, decide_eq_false (by omega)]
theorem gdiff_least : gdiff 0 (-9223372036854775808) = (0, false, false) := by decide
theorem digits_no (w : World) : Calls Tryz.prog 121 #[.int .i64 (-9223372036854775808)] w fun e w' => e = .returned (.tuple #[.slice none 0 0, .bool false]) ∧ Below w.heap.size w w' := by
  have HD := Lib.hid (tdiff_any 0 (-9223372036854775808) w (by unfold inInt; omega) (by unfold inInt; omega))
  rw [gdiff_least] at HD
  go_enter Tryz.func121, Tryz.ntmps121
  go_wp2_with fail
  refine HD.out.mono ?_
  rintro e w1 ⟨rfl, hb1⟩
  go_wp2
  go_ret2
  exact ⟨rfl, hb1⟩
/-- The bytes are laid from the last one on. -/
def DgRel (S n g : Nat) (w : World) (i : Value) (wr : World) : Prop := ∃ k : Nat, k ≤ n ∧ i = .int .i64 (k : Int) ∧ Row wr g 5 ((List.replicate (n - k) (0 : UInt8) ++ be k S).map bv) ∧ Below w.heap.size w wr
theorem dg_step {S n k : Nat} (hk : k < n) : (List.replicate (n - k) (0 : UInt8) ++ be k S).set (n - 1 - k) (UInt8.ofNat (S / 256 ^ k % 256)) = List.replicate (n - (k + 1)) 0 ++ be (k + 1) S := by
  obtain ⟨m, hm⟩ : ∃ m, n - k = m + 1 := ⟨n - k - 1, by omega⟩
  rw [hm, show n - 1 - k = m by omega, show n - (k + 1) = m by omega, List.replicate_succ', List.append_assoc, List.set_append_right _ _ (by simp), List.length_replicate, Nat.sub_self]
  rfl
def RetDg (base : Int) (w : World) (e : Ending) (w' : World) : Prop :=
  ∃ g, e = .returned (.tuple #[.slice (some ⟨g, 0, none⟩) (pn base) (pn base), .bool true]) ∧ w.heap.size ≤ g ∧ Row w' g 5 ((pbased base).map bv) ∧ Below w.heap.size w w'
set_option maxHeartbeats 2000000 in
set_option maxRecDepth 100000 in
theorem digits_yes (base : Int) (w : World) (hb : inInt base) (hne : base ≠ -9223372036854775808) : Calls Tryz.prog 121 #[.int .i64 base] w (RetDg base w) := by
  obtain ⟨_, hlt⟩ := psize_base hb hne
  obtain ⟨n1, n8, hS8⟩ := pn_bd hlt
  have hg := gdiff_base hb hne
  unfold RetDg
  obtain ⟨S, hS⟩ : ∃ S, S = psize base := ⟨_, rfl⟩
  obtain ⟨n, hn⟩ : ∃ n, n = pn base := ⟨_, rfl⟩
  obtain ⟨f, hf⟩ : ∃ f, f = decide (base < 0) := ⟨_, rfl⟩
  rw [← hS, ← hf] at hg
  have HD := Lib.hid (tdiff_any 0 base w (by unfold inInt; omega) hb)
  rw [hg] at HD
  have hpb : pbased base = be n (S + if f = true then 2 ^ (8 * n - 1) else 0) := by
    unfold pbased
    rw [← hS, ← hn]
    congr 2
    rw [hf]
    by_cases h : base < 0
    · rw [if_pos h, if_pos (by simpa using h)]
    · rw [if_neg h, if_neg (by simpa using h)]
  obtain ⟨B, hB⟩ : ∃ B, B = wbits S := ⟨_, rfl⟩
  have HBI := Lib.hid (fun W => bits_any S W (by rw [hS]; show psize base < 18446744073709551616; omega))
  rw [← hB] at HBI
  obtain ⟨Q, hQ⟩ : ∃ Q, Q = B / 8 := ⟨_, rfl⟩
  have hnq : n = Q + 1 := by rw [hn, hQ, hB, hS]; rfl
  have hBq : (B : Int) / 8 = (Q : Int) := by omega
  rw [← hn] at n1 n8 hS8 ⊢
  rw [← hS] at hS8
  have HPB := Lib.hid hpb
  have HS8 := Lib.hid hS8
  have hQn : (Q : Int) + 1 = (n : Int) := by omega
  have hnw : IntKind.i64.wrap (n : Int) = (n : Int) := by rw [IntKind.wrap_i64]; omega
  clear hlt hS hn hf hg hpb hB hQ hnq hS8 hb hne
  go_enter Tryz.func121, Tryz.ntmps121
  go_wp2_with fail
  refine HD.out.mono ?_
  rintro e w1 ⟨rfl, hb1⟩
  have HB1 := Lib.hid hb1
  have hz1 := hb1.size
  clear hb1
  go_wp2_with (first | (go_at_call 105; refine (HBI.out _).mono ?_; rintro e w' ⟨rfl, rfl⟩) | (refine wpList_make elemB rfl _ _ rfl _ _ _ _ n w w.heap.size rfl rfl (by first | exact hQn | rfl) (by first | exact hQn | rfl) (by omega) (by omega) HB1.out hz1 ?_))
  intro w2 hr2 hb2
  have HS := Lib.hid (show DgRel S n w1.heap.size w (.int .i64 0) w2 from ⟨0, Nat.zero_le _, rfl, by rw [Nat.sub_zero]; simpa [be] using hr2, hb2⟩)
  clear hr2 hb2
  go_wp2
  go_loopw [24] (DgRel S n w1.heap.size w) (fun i _ => n - (intOf i).toNat)
  case atStart => exact HS.out
  case round =>
    obtain ⟨k, hk, rfl, hr, hbw⟩ := hrel
    have HBW := Lib.hid hbw
    have hgr := hr.lt
    by_cases hlt : k < n
    · have hlti : (k : Int) < (n : Int) := by omega
      obtain ⟨I, hI⟩ : ∃ I, I = n - 1 - k := ⟨_, rfl⟩
      have hIi : (n : Int) - 1 - (k : Int) = (I : Int) := by omega
      have hn1 : IntKind.i64.wrap ((n : Int) - 1) = (n : Int) - 1 := by rw [IntKind.wrap_i64]; omega
      have hIw : IntKind.i64.wrap (I : Int) = (I : Int) := by rw [IntKind.wrap_i64]; omega
      obtain ⟨T, hT⟩ : ∃ T, T = S / 2 ^ (8 * k) := ⟨_, rfl⟩
      obtain ⟨M, hM⟩ : ∃ M, M = 8 * k := ⟨_, rfl⟩
      have hMi : 8 * (k : Int) = (M : Int) := by omega
      have hMw : IntKind.i64.wrap (M : Int) = (M : Int) := by rw [IntKind.wrap_i64]; omega
      have hsh : (S : Int) / 2 ^ M = (T : Int) := by rw [hT, hM]; simp
      obtain ⟨C, hC⟩ : ∃ C, C = T % 256 := ⟨_, rfl⟩
      have hC256 : C < 256 := by omega
      have hCw : IntKind.u8.wrap (T : Int) = (C : Int) := by rw [IntKind.wrap_u8]; omega
      have hTm : (T : Int) % 256 = (C : Int) := by omega
      have hset := row_set hr I C hC256
      rw [hC, hT, ← p256, hI, dg_step hlt, ← hI, p256, ← hT, ← hC] at hset
      have HSET := Lib.hid hset
      have HB3 := Lib.hid (hbw.setCell (p := ⟨w1.heap.size, I, none⟩) hz1 (.int .u8 (C : Int)))
      have hcu : ∃ u, wr.cell? ⟨w1.heap.size, I, none⟩ = some u := by
        rw [hr.cell]
        exact ⟨_, List.getElem?_eq_getElem (by simp [be_len]; omega)⟩
      obtain ⟨u0, hcu⟩ := hcu
      have hfr := hr.free I
      have hIn : (I : Int) < (n : Int) := by omega
      have hM64 : M < 64 := by omega
      clear hset hr hT hC hI hM hbw
      go_wp2
      go_roundw
      case rel => exact ⟨k + 1, hlt, by go_num, HSET.out, HB3.out⟩
      case measure => simp [intOf]; omega
    · obtain rfl : k = n := by omega
      rw [Nat.sub_self, List.replicate_zero, List.nil_append] at hr
      clear hbw
      cases f with
      | false =>
        have HE : Hid (pbased base = be k S) := Lib.hid (by rw [HPB.out]; rfl)
        have HO := Lib.hid hr
        clear hr
        go_wp2
        go_ret2
        rw [HE.out]
        exact ⟨_, rfl, hz1, HO.out, HBW.out⟩
      | true =>
        have HE : Hid (pbased base = be k (S + 2 ^ (8 * k - 1))) := Lib.hid (by rw [HPB.out]; rfl)
        obtain ⟨b0, hb0⟩ : ∃ b0, b0 = S / 256 ^ (k - 1) % 256 := ⟨_, rfl⟩
        obtain ⟨hb1, hbe⟩ := be_signed n1 HS8.out hb0
        have hc0 : wr.cell? ⟨w1.heap.size, 0, none⟩ = some (.int .u8 (b0 : Int)) := by
          rw [hr.cell, List.getElem?_map, List.getElem?_eq_getElem (by rw [be_len]; omega), be_get, Nat.sub_zero, ← hb0]
          show some (bv (UInt8.ofNat b0)) = _
          rw [← bv_low7 (by omega)]
        have hf0 := hr.free 0
        obtain ⟨C, hC⟩ : ∃ C, C = b0 + 128 := ⟨_, rfl⟩
        have hor : bits .or .u8 (b0 : Int) 128 = (C : Int) := by rw [u8_or128 _ (by omega) (by omega)]; omega
        have hst := row_set hr 0 C (by omega)
        rw [hC, hbe, ← hC] at hst
        have HO := Lib.hid hst
        have HB := Lib.hid (HBW.out.setCell (p := ⟨w1.heap.size, 0, none⟩) hz1 (.int .u8 (C : Int)))
        have hn0 : (0 : Int) < (k : Int) := by omega
        clear hst hr hb0 hbe hC
        go_wp2
        go_ret2
        rw [HE.out]
        exact ⟨_, rfl, hz1, HO.out, HB.out⟩
/-- Without its highest bit. -/
theorem and_below {X M : Nat} (hM : M ≤ 63) (h : X < 2 ^ (M + 1)) : X &&& (18446744073709551615 - 2 ^ M) = X % 2 ^ M := by
  have hp : 2 ^ M < 2 ^ 64 := Nat.pow_lt_pow_right (by omega) (by omega)
  rw [show 18446744073709551615 - 2 ^ M = 2 ^ 64 - (2 ^ M + 1) by omega]
  refine Nat.eq_of_testBit_eq fun i => ?_
  rw [Nat.testBit_and, Nat.testBit_two_pow_sub_succ hp, Nat.testBit_mod_two_pow, Nat.testBit_two_pow]
  by_cases h1 : i < M
  · rw [decide_eq_true (by omega : i < 64), decide_eq_true h1, decide_eq_false (by omega : ¬ M = i)]; simp
  · rw [decide_eq_false h1, Bool.false_and]
    by_cases h2 : M = i
    · subst h2; simp
    · have : X.testBit i = false := Nat.testBit_lt_two_pow (Nat.lt_of_lt_of_le h (Nat.pow_le_pow_right (by omega) (by omega)))
      rw [this, Bool.false_and]
theorem and_top {X M : Nat} (h : X < 2 ^ (M + 1)) : (X &&& 2 ^ M) = if 2 ^ M ≤ X then 2 ^ M else 0 := by
  refine Nat.eq_of_testBit_eq fun i => ?_
  rw [Nat.testBit_and, Nat.testBit_two_pow]
  by_cases h2 : M = i
  · subst h2
    rw [decide_eq_true rfl, Bool.and_true]
    by_cases h3 : 2 ^ M ≤ X
    · rw [if_pos h3, Nat.testBit_two_pow_self, Nat.testBit_eq_decide_div_mod_eq]
      have : X / 2 ^ M = 1 := by
        rw [Nat.pow_succ] at h
        have h4 : X / 2 ^ M < 2 := Nat.div_lt_of_lt_mul (by omega)
        have h5 : 1 ≤ X / 2 ^ M := (Nat.le_div_iff_mul_le (Nat.two_pow_pos M)).2 (by omega)
        omega
      rw [this]; decide
    · rw [if_neg h3, Nat.zero_testBit]
      exact Nat.testBit_lt_two_pow (by omega)
  · rw [decide_eq_false h2, Bool.and_false]
    by_cases h3 : 2 ^ M ≤ X
    · rw [if_pos h3, Nat.testBit_two_pow, decide_eq_false h2]
    · rw [if_neg h3, Nat.zero_testBit]
def NrRel (x : List UInt8) (w : World) (u i : Value) (wr : World) : Prop := ∃ k U : Nat, k ≤ x.length ∧ i = .int .i64 (k : Int) ∧ u = .int .u64 (U : Int) ∧ U = bval (x.take k) ∧ wr = w
theorem pmade_sign {x : List UInt8} {X M : Nat} (h1 : 1 ≤ x.length) (h8 : x.length ≤ 8) (hM : M = 8 * x.length - 1) (hX : X = bval x) : gstep 0 (X % 2 ^ M) (decide (2 ^ M ≤ X)) = (pmade x, true) ∧ inInt (pmade x) ∧ X < 2 ^ (M + 1) := by
  have hlt : X < 2 ^ (M + 1) := by rw [hX, show M + 1 = 8 * x.length by omega, ← p256]; exact bval_lt x
  have h63 : 2 ^ M ≤ 2 ^ 63 := Nat.pow_le_pow_right (by omega) (by omega)
  have hR : X % 2 ^ M < 2 ^ M := Nat.mod_lt _ (Nat.two_pow_pos M)
  have e : pmade x = if 2 ^ M ≤ X then -((X % 2 ^ M : Nat) : Int) else ((X % 2 ^ M : Nat) : Int) := by unfold pmade; rw [← hM, ← hX]
  rw [e]
  generalize X % 2 ^ M = S at *
  generalize 2 ^ M = P at *
  refine ⟨?_, ?_, hlt⟩
  · unfold gstep
    rw [if_neg (by omega)]
    by_cases h : P ≤ X
    · rw [if_pos (decide_eq_true h), if_neg (by omega), if_pos h]; try simp
    · rw [if_neg (by simpa using h), if_neg (by omega), if_neg h]; try simp
  · unfold inInt
    split <;> omega
set_option maxHeartbeats 2000000 in
set_option maxRecDepth 100000 in
theorem number_any (x : List UInt8) (v : Value) (w : World) (hv : IsB x v w) (h1 : 1 ≤ x.length) (h8 : x.length ≤ 8) : Calls Tryz.prog 86 #[v] w fun e w' => e = .returned (.int .i64 (pmade x)) ∧ Below w.heap.size w w' := by
  rw [isB_iff] at hv
  obtain ⟨A, n, c, rfl⟩ := hv.shape
  have HN := Lib.hid hv.parts.1
  have HV := Lib.hid hv
  have hn1 : 1 ≤ n := by have := HN.out; omega
  have hn8 : n ≤ 8 := by have := HN.out; omega
  obtain ⟨M, hM⟩ : ∃ M, M = 8 * n - 1 := ⟨_, rfl⟩
  obtain ⟨hst, hin, hX⟩ := pmade_sign (M := M) (X := bval x) h1 h8 (by rw [HN.out]; exact hM) rfl
  have HST := Lib.hid hst
  have HX := Lib.hid hX
  have hMn : 8 * (n : Int) - 1 = (M : Int) := by omega
  have hw8 : IntKind.i64.wrap (8 * (n : Int)) = 8 * (n : Int) := by rw [IntKind.wrap_i64]; omega
  have hMw : IntKind.i64.wrap (M : Int) = (M : Int) := by rw [IntKind.wrap_i64]; omega
  have hM64 : M ≤ 63 := by omega
  have HS := Lib.hid (show NrRel x w (.int .u64 0) (.int .i64 0) w from ⟨0, 0, Nat.zero_le _, rfl, rfl, by simp [bval], rfl⟩)
  clear hv h1 h8 hst hin hX hM
  go_enter Tryz.func86, Tryz.ntmps86
  go_wp2
  go_loopw [3, 11] (NrRel x w) (fun _ i _ => n - (intOf i).toNat)
  case atStart => exact HS.out
  case round =>
    obtain ⟨k, U, hk, rfl, rfl, hU, rfl⟩ := hrel
    have HU := Lib.hid hU
    have hkn : k ≤ n := by have := HN.out; omega
    clear hU hk
    by_cases hlt : k < n
    · have hkl : k < x.length := by have := HN.out; omega
      have hlti : (k : Int) < (n : Int) := by omega
      obtain ⟨ad, rfl, had, hcell⟩ := HV.out.at hkl
      obtain ⟨d, hd⟩ : ∃ d, d = x[k].toNat := ⟨_, rfl⟩
      have hcx : wr.cell? (ad.add k) = some (.int .u8 (d : Int)) := by rw [hcell, hd]; rfl
      have hd8 : d < 256 := by rw [hd]; exact UInt8.toNat_lt _
      have hU7 : U < 72057594037927936 := by
        rw [HU.out]
        refine Nat.lt_of_lt_of_le (bval_lt _) ?_
        have : 256 ^ (x.take k).length ≤ 256 ^ 7 := Nat.pow_le_pow_right (by omega) (by rw [List.length_take]; omega)
        omega
      obtain ⟨V, hV⟩ : ∃ V, V = U * 256 := ⟨_, rfl⟩
      have hor : bits .or .u64 (V : Int) (d : Int) = ((V + d : Nat) : Int) := or_word 8 V d (by omega) hd8 (by omega)
      have hshl : IntKind.u64.wrap ((U : Int) * 256) = (V : Int) := by rw [IntKind.wrap_u64]; omega
      obtain ⟨Y, hY⟩ : ∃ Y, Y = V + d := ⟨_, rfl⟩
      rw [← hY] at hor
      have hdw : IntKind.u64.wrap (d : Int) = (d : Int) := by rw [IntKind.wrap_u64]; omega
      have HN1 := Lib.hid (show Y = bval (x.take (k + 1)) by rw [bval_snoc_at x k hkl, ← HU.out, ← hd]; omega)
      clear hcell hd hY hU7 hV
      go_wp2
      go_roundw
      case rel => exact ⟨k + 1, Y, hkl, by go_num, rfl, HN1.out, rfl⟩
      case measure => simp [intOf]; omega
    · obtain rfl : k = n := by omega
      have hXU : U = bval x := by have := HU.out; rwa [List.take_of_length_le (by have := HN.out; omega)] at this
      rw [← hXU] at HST HX
      obtain ⟨P, hP⟩ : ∃ P, P = 2 ^ M := ⟨_, rfl⟩
      obtain ⟨R, hR⟩ : ∃ R, R = U % 2 ^ M := ⟨_, rfl⟩
      have hPb : P ≤ 9223372036854775808 := by
        rw [hP]
        exact Nat.pow_le_pow_right (n := 2) (i := M) (j := 63) (by omega) hM64
      have hU64 : U < 18446744073709551616 := by
        have h := HX.out
        rw [Nat.pow_succ, ← hP] at h
        omega
      have hRP : R < P := by rw [hR, hP]; exact Nat.mod_lt _ (Nat.two_pow_pos M)
      have hpi : (2 : Int) ^ M = (P : Int) := by rw [hP]; simp
      have hpw : IntKind.u64.wrap (P : Int) = (P : Int) := by rw [IntKind.wrap_u64]; omega
      have hand : bits .andNot .u64 (U : Int) (P : Int) = (R : Int) := by
        rw [u64_andNot_nat _ _ hU64 (by omega), hP, and_below hM64 HX.out, hR]
      obtain ⟨Z, hZ⟩ : ∃ Z, Z = (U &&& P) := ⟨_, rfl⟩
      have hand2 : bits .and .u64 (U : Int) (P : Int) = (Z : Int) := by
        rw [u64_and_nat _ _ hU64 (by omega), hZ]
      have hZt : ((Z : Int) != 0) = decide (2 ^ M ≤ U) := by
        rw [hZ, hP, and_top HX.out, ← hP]
        by_cases h : P ≤ U
        · rw [if_pos h, decide_eq_true h]
          have : 0 < P := by omega
          simp; omega
        · rw [if_neg h, decide_eq_false h]; rfl
      obtain ⟨f, hf⟩ : ∃ f, f = decide (2 ^ M ≤ U) := ⟨_, rfl⟩
      rw [← hf] at hZt HST
      rw [← hR] at HST
      have HSP := Lib.hid (tstep_any 0 (R : Int) f wr (by unfold inInt; omega) (by omega) (by omega))
      rw [Int.toNat_natCast, HST.out] at HSP
      clear hXU hP hR hPb hU64 hRP hZ hf
      go_wp2_with (go_at_call 129; refine HSP.out.mono ?_; rintro e w1 ⟨rfl, hb1⟩)
      go_ret
      exact ⟨rfl, hb1⟩
end Go.Proofs.YtnbiopihcbnkpaaGreatDoor
