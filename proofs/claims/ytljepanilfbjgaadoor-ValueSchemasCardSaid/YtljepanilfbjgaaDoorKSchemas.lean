
/- The walk of the statement ValueSchemas: for any columns and any values the law answers true. -/

import Derived.Test.YtljepanilfbjgaaDoorKShown

import Derived.Test.YtljepanilfbjgaaDoorKOpen

import Derived.Test.YtljepanilfbjgaaDoorUDoor

import Derived.Test.YtljepanilfbjgaaDoorKSchema

import Derived.Test.YtljepanilfbjgaaDoorKOpenS

import Derived.StillTailTactics

namespace Go.Proofs.YtljepanilfbjgaaDoor

open Go.RowKit Go.ChangeShapes Go.WideShapes Go.ChangeAt

/-- What the law works on: the first ten. -/
theorem cut_ten {α : Type} {f : α → List Value} {m : Nat} {l : List α} {A : Option Addr} {n c : Nat} {w : World} (hf : ∀ x, (f x).length = m) (h : IsR f l (.slice A n c) w) : ∃ k l', (k = n ∧ n ≤ 10 ∨ k = 10 ∧ 10 < n) ∧ IsR f l' (.slice A k c) w ∧ l'.length ≤ 1000000 ∧ ∀ x ∈ l', x ∈ l := by
  by_cases hn : n ≤ 10
  · exact ⟨n, l, .inl ⟨rfl, hn⟩, h, by rw [h.parts.1]; omega, fun _ hx => hx⟩
  · exact ⟨10, l.take 10, .inr ⟨rfl, by omega⟩, h.take hf (by omega), by rw [List.length_take]; omega, fun _ hx => List.mem_of_mem_take hx⟩
set_option maxHeartbeats 4000000 in
set_option maxRecDepth 100000 in
theorem ValueSchemas_walk (w : World) (hU : Tryd.U8 w) (v0 : Value) (l0 : List CC) (h0 : IsR ccells l0 v0 w) (hs0 : ∀ x ∈ l0, x.s.size ≤ maxLen) (hk0 : ∀ x ∈ l0, -9223372036854775808 ≤ x.kind ∧ x.kind ≤ 9223372036854775807)
    (v1 : Value) (r0 : List CV) (h1 : IsR kcells r0 v1 w) (hi1 : ∀ x ∈ r0, x.inInt) (hs1 : ∀ x ∈ r0, x.s.size ≤ maxLen) :
    Calls Tryd.prog 4 #[v0, v1] w fun e w' => e = .returned (.bool true) ∧ Below w.heap.size w w' := by
  obtain ⟨A, n, c, rfl⟩ := h0.shape
  obtain ⟨B, m, d, rfl⟩ := h1.shape
  obtain ⟨_, _, hnc, hcm, _⟩ := h0.parts
  obtain ⟨_, _, hmd, hdm, _⟩ := h1.parts
  have hc9 : (c : Int) ≤ 9223372036854775807 := by unfold maxLen at hcm; omega
  have hd9 : (d : Int) ≤ 9223372036854775807 := by unfold maxLen at hdm; omega
  obtain ⟨k, l, hk, hl, hlb, hlm⟩ := cut_ten (f := ccells) (m := 2) (fun _ => rfl) h0
  obtain ⟨k', r, hk', hr, hrb, hrm⟩ := cut_ten (f := kcells) (m := 3) (fun _ => rfl) h1
  have HL := Lib.hid hl
  have HR := Lib.hid hr
  have HLB := Lib.hid hlb
  have HRB := Lib.hid hrb
  have HS0 := Lib.hid (fun x hx => hs0 x (hlm x hx))
  have HK0 := Lib.hid (fun x hx => hk0 x (hlm x hx))
  have HS1 := Lib.hid (fun x hx => hs1 x (hrm x hx))
  have HI1 := Lib.hid (fun x hx => hi1 x (hrm x hx))
  have HU := Lib.hid hU
  clear h0 h1 hl hr hlb hrb hs0 hk0 hs1 hi1 hlm hrm hU hcm hdm
  rcases hk with ⟨rfl, e0⟩ | ⟨rfl, e0⟩ <;> rcases hk' with ⟨rfl, e1⟩ | ⟨rfl, e1⟩
  all_goals
    go_enter Tryd.func4, Tryd.ntmps4
    go_wp2_with fail
    refine (shown_any _).mono ?_
    rintro e w1 ⟨rfl, hb1⟩
    have HB1 := Lib.hid hb1
    clear hb1
    go_wp2_with fail
    refine (kschema_any l _ _ (HL.out.below HB1.out) HS0.out HLB.out).mono ?_
    rintro e w2 ⟨rfl, hb2⟩
    have HB2 := Lib.hid (below_then HB1.out hb2)
    clear hb2
    go_wp2_with fail
    refine (rschema12_any l _ _ (HL.out.below HB2.out) HS0.out HLB.out).mono ?_
    rintro e w3 ⟨rfl, hb3⟩
    have HB3 := Lib.hid (below_then HB2.out hb3)
    clear hb3
    go_wp2_with fail
    refine (krow_any l r _ _ _ (HL.out.below HB3.out) (HR.out.below HB3.out) HS1.out HI1.out HK0.out HLB.out HRB.out).mono ?_
    rintro e w4 ⟨rfl, hb4⟩
    have HB4 := Lib.hid (below_then HB3.out hb4)
    clear hb4
    go_wp2_with fail
    refine (rrow12_any l r _ _ _ (Utf8Tabs_below HU.out HB4.out) (HL.out.below HB4.out) (HR.out.below HB4.out) HS1.out HLB.out HRB.out).mono ?_
    rintro e w5 ⟨rfl, hb5⟩
    go_wp2
    go_ret
    exact ⟨rfl, below_then HB4.out hb5⟩
set_option maxRecDepth 100000 in
theorem ValueSchemas_lifted (os : Os) (started : os.Started) (H : Type) (enc : TypeId × Value → H) :
    ReturnsInHanded {} Tryd.checked os 4 .any (fun w args => (Rows.valueSchemasSpec.pre enc Tryd.prog Tryd.f4 [] false w args ∧ laidMetH Tryd.prog [("unicode/utf8.acceptRanges", Rows.laid_unicode_utf8_acceptRanges), ("unicode/utf8.first", Rows.laid_unicode_utf8_first)] w) ∧ sizedMet enc Tryd.prog Tryd.f4 (OpenSpec.ofChange Rows.valueSchemasSpec) false w args) (Rows.valueSchemasSpec.post enc Tryd.prog Tryd.f4 false true false false) := by
  refine returnsInHanded_of_change_and (C := Tryd.checked) (X := fun w _ => laidMetH Tryd.prog [("unicode/utf8.acceptRanges", Rows.laid_unicode_utf8_acceptRanges), ("unicode/utf8.first", Rows.laid_unicode_utf8_first)] w) (fun _ _ _ hh h => h.of_heap hh) own started (by kernel_rfl) Tryd.func4
    (ChangeSpec.witness_shaped (enc := enc) (C := Tryd.checked) (os := os) (X := fun w _ => laidMetH Tryd.prog [("unicode/utf8.acceptRanges", Rows.laid_unicode_utf8_acceptRanges), ("unicode/utf8.first", Rows.laid_unicode_utf8_first)] w) false (World.laidAll Tryd.prog os [("unicode/utf8.acceptRanges", Rows.laid_unicode_utf8_acceptRanges), ("unicode/utf8.first", Rows.laid_unicode_utf8_first)]) #[.slice none 0 0, .slice none 0 0] 8 (World.laidAll_os _ _ _) (World.shaped_of_ZipB (by kernel_rfl) (by kernel_rfl)) (by kernel_rfl) (by kernel_rfl) (by kernel_rfl) (by rw [MakeChecks.laidMetH_plain _ _ _ (by kernel_rfl)]; exact laidMet_laidAll _ (by kernel_rfl) (by kernel_rfl))) ?_
  intro W base args ds gs before hval0 hW _ _ hL _
  have hT := u8_of hL
  clear hL
  have hval : ∀ (j : Nat) t v, Tryd.f4.params[j]? = some t → args[j]? = some v → Value.okWide Tryd.prog W .any base t v := hval0
  have hW' := hW
  obtain ⟨p, q, hT0, hV, rfl, hfz, hnd⟩ := hW
  have hA : DataW.TrodAll enc Tryd.prog W 0 (fun _ => true) true Tryd.f4.params.toList args.toList ds p := hT0
  rw [Tryd.params4] at hA hval
  obtain ⟨v0, vs0, d0, ds0, p0, q0, hargs, rfl, rfl, h0, r0⟩ := trodAll_cons hA
  obtain ⟨v1, vs1, d1, ds1, p1, q1, rfl, rfl, rfl, h1, r1⟩ := trodAll_cons r0
  obtain ⟨rfl, rfl, rfl⟩ := trodAll_nil r1
  obtain rfl : args = #[v0, v1] := by cases args; simp_all
  obtain ⟨rfl, rfl⟩ := trodVars_none hV
  have hlt0 : ∀ x ∈ p0, x.block < W.heap.size := fun x hx => hW'.lt x (by simp [hx])
  obtain ⟨l0, hl0, hp0, hq0⟩ := open_cols (hval 0 27 v0 rfl rfl) h0 hlt0
  have hlt1 : ∀ x ∈ p1, x.block < W.heap.size := fun x hx => hW'.lt x (by simp [hx])
  obtain ⟨l1, hl1, hp1, hq1⟩ := open_vals (hval 1 28 v1 rfl rfl) h1 hlt1
  clear hT0 hval0
  refine (ValueSchemas_walk W hT v0 l0 hl0 hp0 hq0 v1 l1 hl1 hp1 hq1).mono fun e W' ⟨he, hb⟩ => ?_
  subst he
  exact ⟨_, rfl, law_post laidOut Tryd.underlying4 (by kernel_rfl) (by kernel_rfl) rfl hW' rfl hb⟩

theorem ValueSchemas_over : Rows.valueSchemasRow.holds Tryd.pinned (OpenSpec.ofChange Rows.valueSchemasSpec) :=
  OpenClaim.holds_of_wide 4 Tryd.f4 rfl rfl rfl rfl rfl rfl rfl ⟨rfl, rfl, rfl, rfl, rfl⟩ rfl rfl rfl rfl rfl (by kernel_rfl) Tryd.func4 (by kernel_rfl)
    (of_decide_eq_true (by kernel_rfl)) (by unfold Func.isWrapper; first | (rw [if_pos (by decide +kernel)]; kernel_rfl) | (rw [if_neg (by decide +kernel)]; exact ⟨rfl, rfl⟩))
    (fun os started H enc _ => ValueSchemas_lifted os started H enc)

theorem ValueSchemas_holds : Rows.ValueSchemasCardSaid :=
  Claim7.holds_tied_plain_at .later [] _ true _ _ ValueSchemas_over (fun _ h => by cases h) (by kernel_rfl) (fun _ h => by cases h) valueSchemas_row_tie rfl ⟨rfl, rfl⟩ (by kernel_rfl) rfl
    (fun f fn hf hfn => by
      obtain rfl : f = 4 := Option.some.inj ((show Tryd.prog.funcNamed "pilaster/pilasterlaw12.ValueSchemas" = some 4 by kernel_rfl).symm.trans hf) |>.symm
      obtain rfl : fn = Tryd.f4 := (Option.some.inj (Tryd.func4.symm.trans hfn)).symm
      exact ⟨by kernel_rfl, fun j t ht => stand_ins (by kernel_rfl) ht⟩)
    (by kernel_rfl)
#print axioms ValueSchemas_holds

end Go.Proofs.YtljepanilfbjgaaDoor
