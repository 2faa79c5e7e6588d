
/- The statement IntsBack: for any numbers the law answers true. No condition. -/

import Derived.StillTailTactics
import Derived.Test.YtlibofmpnlfelaaGreatDoorCG13
namespace Go.Proofs.YtlibofmpnlfelaaGreatDoor

open Go.RowKit Go.ChangeShapes Go.WideShapes Go.ChangeAt

/-- The number that is laid down: of Bool the lowest bit. -/
def inorm (k : Nat) (n : Int) : Int := if k = 1 then n % 2 else n
theorem inorm_in {k : Nat} {n : Int} (h : inInt n) : inInt (inorm k n) := by
  unfold inorm inInt at *
  split <;> omega
theorem inorm_bool (n : Int) : inorm 1 n = 0 ∨ inorm 1 n = 1 := by
  unfold inorm
  rw [if_pos rfl]
  omega
def KindRel (w : World) (i : Value) (wr : World) : Prop := ∃ j : Nat, 1 ≤ j ∧ j ≤ 6 ∧ i = .int .i64 (j : Int) ∧ Below w.heap.size w wr
def INormRel (l : List Int) (k : Nat) (w : World) (v i : Value) (wr : World) : Prop :=
  ∃ (m : Nat) (ns : List Int), m ≤ l.length ∧ m ≤ 4096 ∧ i = .int .i64 (m : Int) ∧ ns = (l.take m).map (inorm k) ∧ wr.ownsRow w.heap.size 36 3 v m ((ns.map nv).flatMap kcells) ∧ Below w.heap.size w wr
set_option maxHeartbeats 4000000 in
set_option maxRecDepth 100000 in
theorem IntsBack_walk (w : World) (hT : WTab w) (v0 : Value) (l0 : List Int) (hI0 : IsV iv l0 v0 w) (hx0 : ∀ x ∈ l0, inInt x) :
    Calls Tryz.prog 5 #[v0] w fun e w' => e = .returned (.bool true) ∧ Below w.heap.size w w' := by
  have HL := Lib.hid hI0
  have HX := Lib.hid hx0
  have HT := Lib.hid hT
  clear hI0 hx0 hT
  go_enter Tryz.func5, Tryz.ntmps5
  go_wp2_with fail
  refine (shown_any _ HT.out).mono ?_
  rintro e w1 ⟨rfl, hb1⟩
  have HL := Lib.hid (IsV.below HL.out hb1)
  have HT := Lib.hid (WTab.below HT.out hb1 (WTab.lt HT.out))
  have HB := Lib.hid hb1
  clear hb1
  obtain ⟨A0, n0, c0, rfl⟩ := IsV.shape HL.out
  obtain ⟨hn0, -, hc0, hm0, -⟩ := IsV.parts HL.out
  have hc0i : (c0 : Int) ≤ 9223372036854775807 := by unfold maxLen at hm0; omega
  have HN0 := Lib.hid hn0
  clear hn0 hm0
  go_wp2
  go_loopw [4] (KindRel w1) (fun i _ => 7 - (intOf i).toNat)
  case atStart => exact ⟨1, by omega, by omega, rfl, Below.refl _ _⟩
  case round =>
    obtain ⟨j, hj1, hj6, rfl, hbj⟩ := hrel
    by_cases hj5 : j ≤ 5
    · have g1 : decide ((j : Int) ≤ 5) = true := decide_eq_true (by omega)
      obtain ⟨w2, hw2⟩ : ∃ w2, w2 = wr := ⟨_, rfl⟩
      rw [← hw2] at hbj ⊢
      have HB2 := Lib.hid (below_then HB.out hbj)
      have HBJ := Lib.hid hbj
      have HL2 := Lib.hid (IsV.below HL.out hbj)
      have HT2 := Lib.hid (WTab.below HT.out hbj (WTab.lt HT.out))
      have hst : INormRel l0 j w2 (.slice (some ⟨w2.heap.size, 0, none⟩) 0 0) (.int .i64 0) (w2.alloc (.cells #[] 36)) := ⟨0, [], by omega, by omega, rfl, rfl, ownW_made w2 _ 3, (Below.refl _ _).alloc (Nat.le_refl _) _⟩
      have HST := Lib.hid hst
      clear hbj hw2 hst
      go_wp2
      go_loopw [5, 6] (INormRel l0 j w2) (fun _ i _ => 4097 - (intOf i).toNat)
      case atStart => exact HST.out
      case round =>
        obtain ⟨m, ns, hml, hm5, rfl, hns', hown, hbw⟩ := hrel
        clear HST
        have hmn : m ≤ n0 := by have := HN0.out; omega
        have hz := hbw.size
        have HNS := Lib.hid hns'
        have HNL := Lib.hid (show ns.length = m by rw [hns', List.length_map, List.length_take]; omega)
        clear hns'
        obtain ⟨wr2, hwr2⟩ : ∃ wr2, wr2 = wr := ⟨_, rfl⟩
        rw [← hwr2] at hown hbw hz ⊢
        clear hwr2
        by_cases hgo : m < n0 ∧ m < 4096
        · obtain ⟨h1, h2⟩ := hgo
          have d1 : decide (m < n0) = true := decide_eq_true h1
          have d2 : decide ((m : Int) < 4096) = true := decide_eq_true (by omega)
          have hml' : m < l0.length := by have := HN0.out; omega
          have hm0i : (m : Int) < (n0 : Int) := by omega
          obtain ⟨ad, hAd, _, hcell⟩ := (IsV.below HL2.out hbw).at hml'
          subst hAd
          obtain ⟨x, hx⟩ : ∃ x, x = l0[m] := ⟨_, rfl⟩
          have hcx : wr2.cell? (ad.add m) = some (.int .i64 x) := by rw [hcell, hx]; rfl
          have HNX := Lib.hid (show ns ++ [inorm j x] = (l0.take (m + 1)).map (inorm j) by rw [map_next _ hml', HNS.out, hx])
          have hand : bits .and .i64 x 1 = x % 2 := i64_mask x 1 (by omega)
          clear hcell hx
          by_cases hj1 : j = 1
          · have g2 : ((j : Int) == 1) = true := by rw [hj1]; rfl
            have e1 : inorm j x = x % 2 := by unfold inorm; rw [if_pos hj1]
            rw [e1] at HNX
            clear hj1
            have HREL := Lib.hid (show ∀ v7 w7, w7.ownsRow w2.heap.size 36 3 v7 (m + 1) ((ns.map nv).flatMap kcells ++ kcells (nv (x % 2))) → Below w2.heap.size w2 w7 → INormRel l0 j w2 v7 (.int .i64 ((m + 1 : Nat) : Int)) w7 from fun v7 w7 h1 h2 => ⟨m + 1, ns ++ [x % 2], hml', by omega, rfl, HNX.out, by rw [List.map_append, List.map_singleton, flat_snoc]; exact h1, h2⟩)
            go_wp2_with (at_builtin; refine wpList_pushW elemW rfl _ _ rfl w2.heap.size _ _ _ (kcells (nv (x % 2))) wr2 w2 rfl rfl rfl rfl (kcells_one _) hown hbw hz (by omega) (by omega) ?_)
            intro v7 w7 hown7 hb7 _ _
            have HREL2 := Lib.hid (HREL.out v7 w7 hown7 hb7)
            clear hown7 hown hb7
            go_wp2
            go_roundw
            case rel => exact HREL2.out
            case measure => simp [intOf]; omega
          · have g2 : ((j : Int) == 1) = false := by rw [beq_eq_false_iff_ne]; omega
            have e1 : inorm j x = x := by unfold inorm; rw [if_neg hj1]
            rw [e1] at HNX
            clear hj1
            have HREL := Lib.hid (show ∀ v7 w7, w7.ownsRow w2.heap.size 36 3 v7 (m + 1) ((ns.map nv).flatMap kcells ++ kcells (nv (x))) → Below w2.heap.size w2 w7 → INormRel l0 j w2 v7 (.int .i64 ((m + 1 : Nat) : Int)) w7 from fun v7 w7 h1 h2 => ⟨m + 1, ns ++ [x], hml', by omega, rfl, HNX.out, by rw [List.map_append, List.map_singleton, flat_snoc]; exact h1, h2⟩)
            go_wp2_with (at_builtin; refine wpList_pushW elemW rfl _ _ rfl w2.heap.size _ _ _ (kcells (nv (x))) wr2 w2 rfl rfl rfl rfl (kcells_one _) hown hbw hz (by omega) (by omega) ?_)
            intro v7 w7 hown7 hb7 _ _
            have HREL2 := Lib.hid (HREL.out v7 w7 hown7 hb7)
            clear hown7 hown hb7
            go_wp2
            go_roundw
            case rel => exact HREL2.out
            case measure => simp [intOf]; omega
        · have HO := Lib.hid (isR_own (m := 3) (fun _ => rfl) (by omega) hown)
          obtain ⟨Bo, on, co, rfl⟩ := IsR.shape HO.out
          have hon : on = m := by have := IsR.parts HO.out; have h2 := this.1; rw [List.length_map] at h2; have := HNL.out; omega
          subst hon
          obtain ⟨-, -, hco, hcm, -⟩ := IsR.parts HO.out
          have hcoi : (co : Int) ≤ 9223372036854775807 := by unfold maxLen at hcm; omega
          have hni : ∀ n ∈ ns, inInt n := by
            rw [HNS.out]
            intro n hn
            obtain ⟨y, hy, rfl⟩ := List.mem_map.1 hn
            exact inorm_in (HX.out y (List.mem_of_mem_take hy))
          have hnb : (j : Int) = 1 → ∀ n ∈ ns, n = 0 ∨ n = 1 := by
            intro hj n hn
            rw [HNS.out] at hn
            obtain ⟨y, hy, rfl⟩ := List.mem_map.1 hn
            rw [show j = 1 by omega]
            exact inorm_bool y
          obtain ⟨b, hb1, hb2, hb3, hb4⟩ := iback (k := (j : Int)) (ns := ns) (by omega) (by omega) (by have := HNL.out; omega) hni hnb
          rw [HNL.out] at hb3 hb4
          have HBX := Lib.hid (below_then HBJ.out hbw)
          have HTX := Lib.hid (WTab.below HT2.out hbw (WTab.lt HT2.out))
          have HJI := Lib.hid (show inInt (j : Int) by unfold inInt; omega)
          have HMI := Lib.hid (show inInt (on : Int) by unfold inInt; omega)
          have HP := Lib.hid (iput_any (j : Int) HJI.out (ns.map nv) (.slice Bo on co) wr2 HTX.out HO.out (by intro x hx; obtain ⟨n, hn, rfl⟩ := List.mem_map.1 hx; exact hni n hn) (by intro x hx; obtain ⟨n, hn, rfl⟩ := List.mem_map.1 hx; exact Nat.zero_le _) (by rw [List.length_map]; have := HNL.out; omega))
          rw [hb1] at HP
          have HB3E := Lib.hid hb3
          have HB4E := Lib.hid (show j ≠ 1 → on < 4096 → (itakeE (j : Int) b ((on + 1 : Nat) : Int)).2 = 2 from fun h => hb4 (by omega))
          have HBL := Lib.hid (show b.length ≤ 1000000 by omega)
          clear hb1 hb2 hb3 hb4 hni hnb hown hbw hcm
          rcases (by omega : n0 ≤ on ∨ (on < n0 ∧ 4096 ≤ on)) with h1 | ⟨h1, h2⟩
          · have d1 : decide (on < n0) = false := decide_eq_false (by omega)
            go_wp2_with fail
            refine HP.out.mono ?_
            rintro e w3 ⟨bv3, rfl, hbv, hb3⟩
            have HB3 := Lib.hid (below_then HBX.out hb3)
            have HBV3 := Lib.hid hbv
            have HO3 := Lib.hid (IsR.below HO.out hb3)
            have HT3 := Lib.hid (WTab.below HTX.out hb3 (WTab.lt HTX.out))
            clear hbv hb3
            have HTK := Lib.hid (itake_any (j : Int) b bv3 (on : Int) w3 HT3.out HBV3.out HBL.out)
            rw [HB3E.out] at HTK
            go_wp2_with fail
            refine HTK.out.mono ?_
            rintro e w4 ⟨mv, rfl, hmv, hb4⟩
            have HB4 := Lib.hid (below_then HB3.out hb4)
            have HBV4 := Lib.hid (IsB.below HBV3.out hb4)
            have HO4 := Lib.hid (IsR.below HO3.out hb4)
            have HMV4 := Lib.hid hmv
            have HT4 := Lib.hid (WTab.below HT3.out hb4 (WTab.lt HT3.out))
            clear hmv hb4
            go_wp2_with fail
            refine (samerow12_any (ns.map nv) mv _ _ HMV4.out HO4.out (by rw [List.length_map]; have := HNL.out; omega)).mono ?_
            rintro e w5 ⟨rfl, hb5⟩
            have HB5 := Lib.hid (below_then HB4.out hb5)
            have HBV5 := Lib.hid (IsB.below HBV4.out hb5)
            have HT5 := Lib.hid (WTab.below HT4.out hb5 (WTab.lt HT4.out))
            clear hb5
            by_cases hm4 : on < 4096
            · have f1 : decide ((on : Int) < 4096) = true := decide_eq_true (by omega)
              by_cases hj1 : j = 1
              · have f2 : ((j : Int) != 1) = false := by rw [hj1]; rfl
                clear hj1
                have HREL3 := Lib.hid (show KindRel w1 (.int .i64 ((j + 1 : Nat) : Int)) w5 from ⟨j + 1, by omega, by omega, rfl, HB5.out⟩)
                go_wp2
                go_roundw
                case rel => exact HREL3.out
                case measure => simp [intOf]; omega
              · have f2 : ((j : Int) != 1) = true := by simp; omega
                obtain ⟨o2, ho2⟩ : ∃ o2, itakeE (j : Int) b ((on + 1 : Nat) : Int) = (o2, 2) := ⟨_, Prod.ext rfl (HB4E.out hj1 hm4)⟩
                have HTM := Lib.hid (itake_any (j : Int) b bv3 ((on + 1 : Nat) : Int) w5 HT5.out HBV5.out HBL.out)
                rw [ho2] at HTM
                clear ho2 hj1
                go_wp2_with fail
                refine HTM.out.mono ?_
                rintro e w6 ⟨gv, rfl, _, hb6⟩
                have HB6 := Lib.hid (below_then HB5.out hb6)
                clear hb6
                have HREL3 := Lib.hid (show KindRel w1 (.int .i64 ((j + 1 : Nat) : Int)) w6 from ⟨j + 1, by omega, by omega, rfl, HB6.out⟩)
                go_wp2
                go_roundw
                case rel => exact HREL3.out
                case measure => simp [intOf]; omega
            · have f1 : decide ((on : Int) < 4096) = false := decide_eq_false (by omega)
              have HREL3 := Lib.hid (show KindRel w1 (.int .i64 ((j + 1 : Nat) : Int)) w5 from ⟨j + 1, by omega, by omega, rfl, HB5.out⟩)
              go_wp2
              go_roundw
              case rel => exact HREL3.out
              case measure => simp [intOf]; omega
          · have d1 : decide (on < n0) = true := decide_eq_true h1
            have d2 : decide ((on : Int) < 4096) = false := decide_eq_false (by omega)
            go_wp2_with fail
            refine HP.out.mono ?_
            rintro e w3 ⟨bv3, rfl, hbv, hb3⟩
            have HB3 := Lib.hid (below_then HBX.out hb3)
            have HBV3 := Lib.hid hbv
            have HO3 := Lib.hid (IsR.below HO.out hb3)
            have HT3 := Lib.hid (WTab.below HTX.out hb3 (WTab.lt HTX.out))
            clear hbv hb3
            have HTK := Lib.hid (itake_any (j : Int) b bv3 (on : Int) w3 HT3.out HBV3.out HBL.out)
            rw [HB3E.out] at HTK
            go_wp2_with fail
            refine HTK.out.mono ?_
            rintro e w4 ⟨mv, rfl, hmv, hb4⟩
            have HB4 := Lib.hid (below_then HB3.out hb4)
            have HBV4 := Lib.hid (IsB.below HBV3.out hb4)
            have HO4 := Lib.hid (IsR.below HO3.out hb4)
            have HMV4 := Lib.hid hmv
            have HT4 := Lib.hid (WTab.below HT3.out hb4 (WTab.lt HT3.out))
            clear hmv hb4
            go_wp2_with fail
            refine (samerow12_any (ns.map nv) mv _ _ HMV4.out HO4.out (by rw [List.length_map]; have := HNL.out; omega)).mono ?_
            rintro e w5 ⟨rfl, hb5⟩
            have HB5 := Lib.hid (below_then HB4.out hb5)
            have HBV5 := Lib.hid (IsB.below HBV4.out hb5)
            have HT5 := Lib.hid (WTab.below HT4.out hb5 (WTab.lt HT4.out))
            clear hb5
            by_cases hm4 : on < 4096
            · exact absurd hm4 (by omega)
            · have f1 : decide ((on : Int) < 4096) = false := decide_eq_false (by omega)
              have HREL3 := Lib.hid (show KindRel w1 (.int .i64 ((j + 1 : Nat) : Int)) w5 from ⟨j + 1, by omega, by omega, rfl, HB5.out⟩)
              go_wp2
              go_roundw
              case rel => exact HREL3.out
              case measure => simp [intOf]; omega
    · obtain rfl : j = 6 := by omega
      have g1 : decide (((6 : Nat) : Int) ≤ 5) = false := by decide
      have HBE := Lib.hid (below_then HB.out hbj)
      clear hbj
      go_wp2
      go_ret
      exact ⟨rfl, HBE.out⟩

set_option maxRecDepth 100000 in
theorem IntsBack_lifted (os : Os) (started : os.Started) (H : Type) (enc : TypeId × Value → H) :
    ReturnsInHanded {} Tryz.checked os 5 .any (fun w args => (Rows.intsBackSpec.pre enc Tryz.prog Tryz.f5 [] false w args ∧ laidMetH Tryz.prog [("pilaster/widths.table", Rows.laid_pilaster_widths_table)] w) ∧ sizedMet enc Tryz.prog Tryz.f5 (OpenSpec.ofChange Rows.intsBackSpec) false w args) (Rows.intsBackSpec.post enc Tryz.prog Tryz.f5 false true false false) := by
  refine returnsInHanded_of_change_and (C := Tryz.checked) (X := fun w _ => laidMetH Tryz.prog [("pilaster/widths.table", Rows.laid_pilaster_widths_table)] w) (fun _ _ _ hh h => h.of_heap hh) own started (by kernel_rfl) Tryz.func5
    (ChangeSpec.witness_shaped (enc := enc) (C := Tryz.checked) (os := os) (X := fun w _ => laidMetH Tryz.prog [("pilaster/widths.table", Rows.laid_pilaster_widths_table)] w) false (World.doorLaid Tryz.prog 400 os) #[.slice none 0 0] 8 rfl (World.shaped_of_RefB (by kernel_rfl) (by kernel_rfl)) (by kernel_rfl) (by kernel_rfl) (by kernel_rfl) (door_met os _)) ?_
  intro W base args ds gs before hval0 hW _ _ hL _
  have hT := tab_of hL
  clear hL
  have hval : ∀ (j : Nat) t v, Tryz.f5.params[j]? = some t → args[j]? = some v → Value.okWide Tryz.prog W .any base t v := hval0
  have hW' := hW
  obtain ⟨p, q, hT0, hV, rfl, hfz, hnd⟩ := hW
  have hA : DataW.TrodAll enc Tryz.prog W 0 (fun _ => true) true Tryz.f5.params.toList args.toList ds p := hT0
  rw [Tryz.params5] at hA hval
  obtain ⟨v0, vs0, d0, ds0, p0, q0, hargs, rfl, rfl, h0, r0⟩ := trodAll_cons hA
  obtain ⟨rfl, rfl, rfl⟩ := trodAll_nil r0
  obtain rfl : args = #[v0] := by cases args; simp_all
  obtain ⟨rfl, rfl⟩ := trodVars_none hV
  have hlt0 : ∀ x ∈ p0, x.block < W.heap.size := fun x hx => hW'.lt x (by simp [hx])
  obtain ⟨l0, hl0, hx0⟩ := open_intsv Tryz.underlying34 Tryz.underlying3 (by kernel_rfl) (hval 0 34 v0 rfl rfl) h0 hlt0
  clear hT0 hval0
  refine (IntsBack_walk W hT v0 l0 hl0 hx0).mono fun e W' ⟨he, hb⟩ => ?_
  subst he
  exact ⟨_, rfl, law_post laidOut Tryz.underlying4 (by kernel_rfl) (by kernel_rfl) rfl hW' rfl hb⟩

theorem IntsBack_over : Rows.intsBackRow.holds Tryz.pinned (OpenSpec.ofChange Rows.intsBackSpec) :=
  OpenClaim.holds_of_wide 5 Tryz.f5 rfl rfl rfl rfl rfl rfl rfl ⟨rfl, rfl, rfl, rfl, rfl⟩ rfl rfl rfl rfl rfl (by kernel_rfl) Tryz.func5 (by kernel_rfl)
    (of_decide_eq_true (by kernel_rfl)) (by unfold Func.isWrapper; first | (rw [if_pos (by decide +kernel)]; kernel_rfl) | (rw [if_neg (by decide +kernel)]; exact ⟨rfl, rfl⟩))
    (fun os started H enc _ => IntsBack_lifted os started H enc)

theorem IntsBack_holds : Rows.IntsBackCardSaid :=
  Claim7.holds_tied_plain_at .later [] _ true _ _ IntsBack_over (fun _ h => by cases h) (by kernel_rfl) (fun _ h => by cases h) intsBack_row_tie rfl ⟨rfl, rfl⟩ (by kernel_rfl) rfl
    (fun f fn hf hfn => by
      obtain rfl : f = 5 := Option.some.inj ((show Tryz.prog.funcNamed "pilaster/pilasterlaw14.IntsBack" = some 5 by kernel_rfl).symm.trans hf) |>.symm
      obtain rfl : fn = Tryz.f5 := (Option.some.inj (Tryz.func5.symm.trans hfn)).symm
      exact ⟨by kernel_rfl, fun j t ht => stand_ins (by kernel_rfl) ht⟩)
    (by kernel_rfl)
#print axioms IntsBack_holds

end Go.Proofs.YtlibofmpnlfelaaGreatDoor
