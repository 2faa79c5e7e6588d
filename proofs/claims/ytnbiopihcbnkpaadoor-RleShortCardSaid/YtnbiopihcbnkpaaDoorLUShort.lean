
/- The statement RleShort: for any numbers, whether signed, the law answers true. No condition. -/

import Derived.Test.YtnbiopihcbnkpaaDoorG6
namespace Go.Proofs.YtnbiopihcbnkpaaDoor

open Go.RowKit Go.ChangeShapes Go.WideShapes Go.ChangeAt

set_option maxHeartbeats 4000000 in
set_option maxRecDepth 100000 in
theorem RleShort_walk (w : World) (ht : WTab w) (v0 : Value) (l0 : List Int) (hI0 : IsV iv l0 v0 w) (hx0 : ∀ x ∈ l0, inInt x) (s : Bool) :
    Calls Tryd.prog 3 #[v0, .bool s] w fun e w' => e = .returned (.bool true) ∧ Below w.heap.size w w' := by
  have HT := Lib.hid ht
  have HI := Lib.hid hI0
  have HX := Lib.hid hx0
  clear ht hI0 hx0
  go_enter Tryd.func3, Tryd.ntmps3
  go_wp2_with fail
  refine (shown_any _ HT.out).mono ?_
  rintro e w1 ⟨rfl, hb1⟩
  have HT := Lib.hid (WTab.below HT.out hb1 (WTab.lt HT.out))
  have HI := Lib.hid (IsV.below HI.out hb1)
  have HB := Lib.hid hb1
  clear hb1
  go_wp2_with fail
  refine (few_512 HI.out).mono ?_
  rintro e w' ⟨⟨u, rfl, hu⟩, rfl⟩
  obtain ⟨l, hl⟩ : ∃ l, l = l0.take 512 := ⟨_, rfl⟩
  rw [← hl] at hu
  have HJL : Hid (l.length ≤ 512) := Lib.hid (by rw [hl, List.length_take]; omega)
  have HJ := Lib.hid hu
  have HXJ : Hid (∀ x ∈ l, inInt x) := Lib.hid (by rw [hl]; exact mem_take HX.out 512)
  clear hu hl
  have HR := Lib.hid (urun_any l u s _ HT.out HJ.out HXJ.out (by have := HJL.out; omega))
  by_cases hbad : dplain l s = none ∨ l.length < 1
  · have hE := urunE_no (l := l) (s := s) (by rcases hbad with h | h; exact .inl h; exact .inr (.inl h))
    have hD : dputE l s = ([], 1) := by rcases hbad with h | h; exact dputE_no h; exact dputE_len (.inl h)
    have hG : gputE l s = ([], 1) := gputE_no (by rcases hbad with h | h; exact .inl h; exact .inr (.inl (by omega)))
    have HD := Lib.hid (fun W (h : WTab W) hv => uddput_any l u s W h hv HXJ.out (by have := HJL.out; omega))
    have HG := Lib.hid (fun W (h : WTab W) hv => udtput_any l u s W h hv HXJ.out (by have := HJL.out; omega))
    rw [hE] at HR
    rw [hD] at HD
    rw [hG] at HG
    clear hE hD hG hbad
    go_wp2_with fail
    refine (HR.out).mono ?_
    rintro e w31 ⟨a, rfl, ha, hb31⟩
    have HT := Lib.hid (WTab.below HT.out hb31 (WTab.lt HT.out))
    have HJ := Lib.hid (IsV.below HJ.out hb31)
    have HB := Lib.hid (below_then HB.out hb31)
    have HA := Lib.hid ha
    clear ha hb31
    go_wp2_with fail
    refine (HD.out _ HT.out HJ.out).mono ?_
    rintro e w32 ⟨b, rfl, hb, hb32⟩
    have HT := Lib.hid (WTab.below HT.out hb32 (WTab.lt HT.out))
    have HJ := Lib.hid (IsV.below HJ.out hb32)
    have HA := Lib.hid (IsB.below HA.out hb32)
    have HB := Lib.hid (below_then HB.out hb32)
    have HBB := Lib.hid hb
    clear hb hb32
    go_wp2_with fail
    refine (HG.out _ HT.out HJ.out).mono ?_
    rintro e w33 ⟨c, rfl, hc, hb33⟩
    have HT := Lib.hid (WTab.below HT.out hb33 (WTab.lt HT.out))
    have HJ := Lib.hid (IsV.below HJ.out hb33)
    have HA := Lib.hid (IsB.below HA.out hb33)
    have HBB := Lib.hid (IsB.below HBB.out hb33)
    have HB := Lib.hid (below_then HB.out hb33)
    have HCC := Lib.hid hc
    clear hc hb33
    go_wp2
    go_ret
    exact ⟨rfl, HB.out⟩
  · have hp : dplain l s ≠ none := fun h => hbad (.inl h)
    have h1 : 1 ≤ l.length := Nat.not_lt.1 fun h => hbad (.inr h)
    have h5 : l.length ≤ 512 := HJL.out
    obtain ⟨r0, _, r2, _⟩ := urun_back (r := []) HXJ.out hp h1 h5
    obtain ⟨us, hus, hD⟩ := dputE_in hp h1 h5
    have hrd := urunE_le HXJ.out hp h1 h5 (dput_mem l s) (by rw [hD])
    have hrg : (gputE l s).2 = 0 → (urunE l s).1.length ≤ (gputE l s).1.length := urunE_le HXJ.out hp h1 h5 (gput_mem l s)
    obtain ⟨ra, hra⟩ : ∃ ra, urunE l s = (ra, 0) := ⟨(urunE l s).1, Prod.ext rfl r0⟩
    obtain ⟨gb, ge, hG⟩ : ∃ gb ge, gputE l s = (gb, ge) := ⟨_, _, rfl⟩
    rw [hra] at r2 hrd hrg
    rw [hD] at hrd
    rw [hG] at hrg
    dsimp only at r2 hrd hrg
    have HD := Lib.hid (fun W (h : WTab W) hv => uddput_any l u s W h hv HXJ.out (by have := HJL.out; omega))
    have HG := Lib.hid (fun W (h : WTab W) hv => udtput_any l u s W h hv HXJ.out (by have := HJL.out; omega))
    rw [hra] at HR
    rw [hD] at HD
    rw [hG] at HG
    have HR2 := Lib.hid r2
    have HRD := Lib.hid hrd
    have HRG := Lib.hid hrg
    clear hra hD hG hbad hp h1 h5 r0 r2 hrd hrg hus
    go_wp2_with fail
    refine (HR.out).mono ?_
    rintro e w31 ⟨a, rfl, ha, hb31⟩
    have HT := Lib.hid (WTab.below HT.out hb31 (WTab.lt HT.out))
    have HJ := Lib.hid (IsV.below HJ.out hb31)
    have HB := Lib.hid (below_then HB.out hb31)
    have HA := Lib.hid ha
    clear ha hb31
    go_wp2_with fail
    refine (HD.out _ HT.out HJ.out).mono ?_
    rintro e w32 ⟨b, rfl, hb, hb32⟩
    have HT := Lib.hid (WTab.below HT.out hb32 (WTab.lt HT.out))
    have HJ := Lib.hid (IsV.below HJ.out hb32)
    have HA := Lib.hid (IsB.below HA.out hb32)
    have HB := Lib.hid (below_then HB.out hb32)
    have HBB := Lib.hid hb
    clear hb hb32
    go_wp2_with fail
    refine (HG.out _ HT.out HJ.out).mono ?_
    rintro e w33 ⟨c, rfl, hc, hb33⟩
    have HT := Lib.hid (WTab.below HT.out hb33 (WTab.lt HT.out))
    have HJ := Lib.hid (IsV.below HJ.out hb33)
    have HA := Lib.hid (IsB.below HA.out hb33)
    have HBB := Lib.hid (IsB.below HBB.out hb33)
    have HB := Lib.hid (below_then HB.out hb33)
    have HCC := Lib.hid hc
    clear hc hb33
    obtain ⟨Aa, na, ca, rfl⟩ := IsV.shape (f := bv) HA.out
    obtain ⟨Ab, nb, cb, rfl⟩ := IsV.shape (f := bv) HBB.out
    obtain ⟨Ac, nc, cc, rfl⟩ := IsV.shape (f := bv) HCC.out
    have hna := (IsV.parts (f := bv) (show IsV bv ra _ _ from HA.out)).1
    have hnb := (IsV.parts (f := bv) (show IsV bv (dlay us) _ _ from HBB.out)).1
    have hnc := (IsV.parts (f := bv) (show IsV bv gb _ _ from HCC.out)).1
    have d2 : (2 : Int) ≤ (na : Int) := by have := HR2.out; omega
    have d3 : (na : Int) ≤ (nb : Int) := by have := HRD.out; omega
    have d3' : decide (na ≤ nb) = true := decide_eq_true (by omega)
    have d4 : (ge != 0) = true ∨ ((ge != 0) = false ∧ na ≤ nc) := by
      by_cases h : ge = 0
      · exact .inr ⟨by simpa using h, by have := HRG.out h; omega⟩
      · exact .inl (by simpa using h)
    clear hna hnb hnc
    rcases d4 with d4 | ⟨d4, d5⟩
    · go_wp2
      go_ret
      exact ⟨rfl, HB.out⟩
    · have d5' : decide (na ≤ nc) = true := decide_eq_true d5
      go_wp2
      go_ret
      exact ⟨rfl, HB.out⟩

set_option maxRecDepth 100000 in
theorem RleShort_lifted (os : Os) (started : os.Started) (H : Type) (enc : TypeId × Value → H) :
    ReturnsInHanded {} Tryd.checked os 3 .any (fun w args => (Rows.rleShortSpec.pre enc Tryd.prog Tryd.f3 [] false w args ∧ laidMetH Tryd.prog [("pilaster/widths.table", Rows.laid_pilaster_widths_table)] w) ∧ sizedMet enc Tryd.prog Tryd.f3 (OpenSpec.ofChange Rows.rleShortSpec) false w args) (Rows.rleShortSpec.post enc Tryd.prog Tryd.f3 false true false false) := by
  refine returnsInHanded_of_change_and (C := Tryd.checked) (X := fun w _ => laidMetH Tryd.prog [("pilaster/widths.table", Rows.laid_pilaster_widths_table)] w) (fun _ _ _ hh h => h.of_heap hh) own started (by kernel_rfl) Tryd.func3
    (ChangeSpec.witness_shaped (enc := enc) (C := Tryd.checked) (os := os) (X := fun w _ => laidMetH Tryd.prog [("pilaster/widths.table", Rows.laid_pilaster_widths_table)] w) false (World.doorLaid Tryd.prog 400 os) #[.slice none 0 0, .bool false] 8 rfl (World.shaped_of_RefB (by kernel_rfl) (by kernel_rfl)) (by kernel_rfl) (by kernel_rfl) (by kernel_rfl) (door_met os _)) ?_
  intro W base args ds gs before hval0 hW _ _ hL _
  have hT := tab_of hL
  clear hL
  have hval : ∀ (j : Nat) t v, Tryd.f3.params[j]? = some t → args[j]? = some v → Value.okWide Tryd.prog W .any base t v := hval0
  have hW' := hW
  obtain ⟨p, q, hT0, hV, rfl, hfz, hnd⟩ := hW
  have hA : DataW.TrodAll enc Tryd.prog W 0 (fun _ => true) true Tryd.f3.params.toList args.toList ds p := hT0
  rw [Tryd.params3] at hA hval
  obtain ⟨v0, vs0, d0, ds0, p0, q0, hargs, rfl, rfl, h0, r0⟩ := trodAll_cons hA
  obtain ⟨v1, vs1, d1, ds1, p1, q1, rfl, rfl, rfl, h1, r1⟩ := trodAll_cons r0
  obtain ⟨rfl, rfl, rfl⟩ := trodAll_nil r1
  obtain rfl : args = #[v0, v1] := by cases args; simp_all
  obtain ⟨rfl, rfl⟩ := trodVars_none hV
  have hlt0 : ∀ x ∈ p0, x.block < W.heap.size := fun x hx => hW'.lt x (by simp [hx])
  obtain ⟨l0, hl0, hx0⟩ := open_intsv Tryd.underlying22 Tryd.underlying3 (by kernel_rfl) (hval 0 22 v0 rfl rfl) h0 hlt0
  obtain ⟨a1, rfl, rfl, rfl⟩ := open_bool Tryd.underlying4 (hval 1 4 v1 rfl rfl) h1
  clear hT0 hval0
  refine (RleShort_walk W hT v0 l0 hl0 hx0 a1).mono fun e W' ⟨he, hb⟩ => ?_
  subst he
  exact ⟨_, rfl, law_post laidOut Tryd.underlying4 (by kernel_rfl) (by kernel_rfl) rfl hW' rfl hb⟩

theorem RleShort_over : Rows.rleShortRow.holds Tryd.pinned (OpenSpec.ofChange Rows.rleShortSpec) :=
  OpenClaim.holds_of_wide 3 Tryd.f3 rfl rfl rfl rfl rfl rfl rfl ⟨rfl, rfl, rfl, rfl, rfl⟩ rfl rfl rfl rfl rfl (by kernel_rfl) Tryd.func3 (by kernel_rfl)
    (of_decide_eq_true (by kernel_rfl)) (by unfold Func.isWrapper; first | (rw [if_pos (by decide +kernel)]; kernel_rfl) | (rw [if_neg (by decide +kernel)]; exact ⟨rfl, rfl⟩))
    (fun os started H enc _ => RleShort_lifted os started H enc)

theorem RleShort_holds : Rows.RleShortCardSaid :=
  Claim7.holds_tied_plain_at .later [] _ true _ _ RleShort_over (fun _ h => by cases h) (by kernel_rfl) (fun _ h => by cases h) rleShort_row_tie rfl ⟨rfl, rfl⟩ (by kernel_rfl) rfl
    (fun f fn hf hfn => by
      obtain rfl : f = 3 := Option.some.inj ((show Tryd.prog.funcNamed "pilaster/pilasterlaw11.RleShort" = some 3 by kernel_rfl).symm.trans hf) |>.symm
      obtain rfl : fn = Tryd.f3 := (Option.some.inj (Tryd.func3.symm.trans hfn)).symm
      exact ⟨by kernel_rfl, fun j t ht => stand_ins (by kernel_rfl) ht⟩)
    (by kernel_rfl)
#print axioms RleShort_holds

end Go.Proofs.YtnbiopihcbnkpaaDoor
