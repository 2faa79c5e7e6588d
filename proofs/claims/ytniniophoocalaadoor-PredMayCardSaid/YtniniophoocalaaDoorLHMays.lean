
/- The statement PredMay: for any columns and any nodes the law answers true. No condition. -/

import Derived.StillTailTactics
import Derived.Test.YtniniophoocalaaDoorG7
namespace Go.Proofs.YtniniophoocalaaDoor

open Go.RowKit Go.ChangeShapes Go.WideShapes Go.ChangeAt

/-- What the law works on: the first ten. -/
theorem hcut_ten {l : List CC} {A : Option Addr} {n c : Nat} {w : World} (h : IsR ccells l (.slice A n c) w) : ∃ k l', (k = n ∧ n ≤ 10 ∨ k = 10 ∧ 10 < n) ∧ IsR ccells l' (.slice A k c) w ∧ l'.length ≤ 10 ∧ ∀ x ∈ l', x ∈ l := by
  by_cases hn : n ≤ 10
  · exact ⟨n, l, .inl ⟨rfl, hn⟩, h, by rw [h.parts.1]; omega, fun _ hx => hx⟩
  · exact ⟨10, l.take 10, .inr ⟨rfl, by omega⟩, h.take (m := 2) (fun _ => rfl) (by omega), by rw [List.length_take]; omega, fun _ hx => List.mem_of_mem_take hx⟩
set_option maxHeartbeats 4000000 in
set_option maxRecDepth 100000 in
theorem PredMay_walk (w : World) (hU : Tryd.U8 w) (v0 : Value) (l0 : List CC) (h0 : IsR ccells l0 v0 w) (_hs0 : ∀ x ∈ l0, x.s.size ≤ maxLen) (hk0 : ∀ x ∈ l0, -9223372036854775808 ≤ x.kind ∧ x.kind ≤ 9223372036854775807) (v1 : Value) (l1 : List HN) (h1 : IsPreds l1 v1 w) :
    Calls Tryd.prog 3 #[v0, v1] w fun e w' => e = .returned (.bool true) ∧ Below w.heap.size w w' := by
  obtain ⟨A, n, c, rfl⟩ := h0.shape
  obtain ⟨_, _, hnc, hcm, _⟩ := h0.parts
  have hc9 : (c : Int) ≤ 9223372036854775807 := by unfold maxLen at hcm; omega
  obtain ⟨k, l, hk, hl, hlb, hlm⟩ := hcut_ten h0
  have HU := Lib.hid hU
  have HL := Lib.hid hl
  have HLB := Lib.hid (show l.length ≤ 1000000 by omega)
  have HK := Lib.hid (fun x hx => hk0 x (hlm x hx))
  have HP := Lib.hid h1
  clear h0 h1 hl hlb _hs0 hk0 hlm hU hcm
  rcases hk with ⟨rfl, e0⟩ | ⟨rfl, e0⟩
  all_goals
    go_enter Tryd.func3, Tryd.ntmps3
    go_wp2_with fail
    refine (shown18_any w HU.out).mono ?_
    rintro e w1 ⟨rfl, hb1⟩
    have HB1 := Lib.hid hb1
    have HU1 := Lib.hid (Utf8Tabs_below HU.out hb1)
    have HP1 := Lib.hid (HP.out.below hb1)
    have HL1 := Lib.hid (HL.out.below hb1)
    clear hb1
    go_wp2_with fail
    refine (few18_any l1 v1 w1 HP1.out).mono ?_
    rintro e w2 ⟨⟨u, rfl, hu⟩, rfl⟩
    have HP2 := Lib.hid hu
    clear hu
    go_wp2_with fail
    refine (hpmay_any l (l1.take 45) _ u w1 HU1.out HL1.out HP2.out HK.out HLB.out).mono ?_
    rintro e w3 ⟨rfl, hb3⟩
    have HB3 := Lib.hid (below_then HB1.out hb3)
    have HU3 := Lib.hid (Utf8Tabs_below HU1.out hb3)
    have HP3 := Lib.hid (HP2.out.below hb3)
    have HL3 := Lib.hid (HL1.out.below hb3)
    clear hb3
    go_wp2_with fail
    refine (rmay18_any l (l1.take 45) _ u w3 HU3.out HL3.out HP3.out).mono ?_
    rintro e w4 ⟨rfl, hb4⟩
    have HB4 := Lib.hid (below_then HB3.out hb4)
    clear hb4
    go_wp2
    go_ret
    exact ⟨rfl, HB4.out⟩

set_option maxRecDepth 100000 in
theorem PredMay_lifted (os : Os) (started : os.Started) (H : Type) (enc : TypeId × Value → H) :
    ReturnsInHanded {} Tryd.checked os 3 .any (fun w args => (Rows.predMaySpec.pre enc Tryd.prog Tryd.f3 [] false w args ∧ laidMetH Tryd.prog [("unicode/utf8.acceptRanges", Rows.laid_unicode_utf8_acceptRanges), ("unicode/utf8.first", Rows.laid_unicode_utf8_first)] w) ∧ sizedMet enc Tryd.prog Tryd.f3 (OpenSpec.ofChange Rows.predMaySpec) false w args) (Rows.predMaySpec.post enc Tryd.prog Tryd.f3 false true false false) := by
  refine returnsInHanded_of_change_and (C := Tryd.checked) (X := fun w _ => laidMetH Tryd.prog [("unicode/utf8.acceptRanges", Rows.laid_unicode_utf8_acceptRanges), ("unicode/utf8.first", Rows.laid_unicode_utf8_first)] w) (fun _ _ _ hh h => h.of_heap hh) own started (by kernel_rfl) Tryd.func3
    (ChangeSpec.witness_shaped (enc := enc) (C := Tryd.checked) (os := os) (X := fun w _ => laidMetH Tryd.prog [("unicode/utf8.acceptRanges", Rows.laid_unicode_utf8_acceptRanges), ("unicode/utf8.first", Rows.laid_unicode_utf8_first)] w) false (World.laidAll Tryd.prog os [("unicode/utf8.acceptRanges", Rows.laid_unicode_utf8_acceptRanges), ("unicode/utf8.first", Rows.laid_unicode_utf8_first)]) #[.slice none 0 0, .slice none 0 0] 8 (World.laidAll_os _ _ _) (World.shaped_of_ZipB (by kernel_rfl) (by kernel_rfl)) (by kernel_rfl) (by kernel_rfl) (by kernel_rfl) (by rw [MakeChecks.laidMetH_plain _ _ _ (by kernel_rfl)]; exact laidMet_laidAll _ (by kernel_rfl) (by kernel_rfl))) ?_
  intro W base args ds gs before hval0 hW _ hsz hL _
  have hT := u8_of hL
  clear hL
  have hval : ∀ (j : Nat) t v, Tryd.f3.params[j]? = some t → args[j]? = some v → Value.okWide Tryd.prog W .any base t v := hval0
  have hW' := hW
  obtain ⟨p, q, hT0, hV, rfl, hfz, hnd⟩ := hW
  have hA : DataW.TrodAll enc Tryd.prog W 0 (fun _ => true) true Tryd.f3.params.toList args.toList ds p := hT0
  rw [Tryd.params3] at hA hval
  obtain ⟨v0, vs0, d0, ds0, p0, q0, hargs, rfl, rfl, h0, r0⟩ := trodAll_cons hA
  obtain ⟨v1, vs1, d1, ds1, p1, q1, rfl, rfl, rfl, h1, r1⟩ := trodAll_cons r0
  obtain ⟨rfl, rfl, rfl⟩ := trodAll_nil r1
  obtain rfl : args = #[v0, v1] := by cases args; simp_all
  obtain ⟨rfl, rfl⟩ := trodVars_none hV
  have hlt0 : ∀ x ∈ p0, x.block < W.heap.size := fun x hx => hW'.lt x (by simp [hx])
  obtain ⟨l0, hl0, hp0, hq0⟩ := open_cols (hval 0 22 v0 rfl rfl) h0 hlt0
  have hlt1 : ∀ x ∈ p1, x.block < W.heap.size := fun x hx => hW'.lt x (by simp [hx])
  have hwt1 : Reached Tryd.prog 23 d1 := fun n hn => by simpa using List.all_eq_true.1 hsz n (DataW.weights_mem_each (j := 1) (by kernel_rfl) rfl n hn)
  obtain ⟨l1, hl1⟩ := open_preds hwt1 (hval 1 23 v1 rfl rfl) h1 hlt1
  clear hT0 hval0
  refine (PredMay_walk W hT v0 l0 hl0 hp0 hq0 v1 l1 hl1).mono fun e W' ⟨he, hb⟩ => ?_
  subst he
  exact ⟨_, rfl, law_post laidOut Tryd.underlying4 (by kernel_rfl) (by kernel_rfl) rfl hW' rfl hb⟩

theorem PredMay_over : Rows.predMayRow.holds Tryd.pinned (OpenSpec.ofChange Rows.predMaySpec) :=
  OpenClaim.holds_of_wide 3 Tryd.f3 rfl rfl rfl rfl rfl rfl rfl ⟨rfl, rfl, rfl, rfl, rfl⟩ rfl rfl rfl rfl rfl (by kernel_rfl) Tryd.func3 (by kernel_rfl)
    (of_decide_eq_true (by kernel_rfl)) (by unfold Func.isWrapper; first | (rw [if_pos (by decide +kernel)]; kernel_rfl) | (rw [if_neg (by decide +kernel)]; exact ⟨rfl, rfl⟩))
    (fun os started H enc _ => PredMay_lifted os started H enc)

theorem PredMay_holds : Rows.PredMayCardSaid :=
  Claim7.holds_tied_plain_at .later [] _ true _ _ PredMay_over (fun _ h => by cases h) (by kernel_rfl) (fun _ h => by cases h) predMay_row_tie rfl ⟨rfl, rfl⟩ (by kernel_rfl) rfl
    (fun f fn hf hfn => by
      obtain rfl : f = 3 := Option.some.inj ((show Tryd.prog.funcNamed "pilaster/pilasterlaw18.PredMay" = some 3 by kernel_rfl).symm.trans hf) |>.symm
      obtain rfl : fn = Tryd.f3 := (Option.some.inj (Tryd.func3.symm.trans hfn)).symm
      exact ⟨by kernel_rfl, fun j t ht => stand_ins (by kernel_rfl) ht⟩)
    (by kernel_rfl)
#print axioms PredMay_holds

end Go.Proofs.YtniniophoocalaaDoor
