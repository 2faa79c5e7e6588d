/- The statement WidthsBits: for every number and every numbers the law answers true. The table is what the program's text lays. -/
import Derived.Test.YtgngdfgfjghbbaaDoorWMost
import Derived.Test.YtgngdfgfjghbbaaDoorLaw
import Derived.Test.YtgngdfgfjghbbaaDoorTie
import Derived.Test.YtgngdfgfjghbbaaDoorCards
import Derived.SevenTiedAt
import Derived.Stop.Joined
import Derived.Test.YtgngdfgfjghbbaaDoorWShown
namespace Go.Proofs.YtgngdfgfjghbbaaDoor
open Go.RowKit Go.ChangeShapes Go.WideShapes Go.ChangeAt

/-- What both ways of counting answer for one slice. -/
structure MostBoth (w : World) (v : Value) (m : Nat) : Prop where
  one : Calls Tryd.prog 17 #[v] w fun e w' => e = .returned (.int .i64 (m : Int)) ∧ w = w'
  two : Calls Tryd.prog 18 #[v] w fun e w' => e = .returned (.int .i64 (m : Int)) ∧ w = w'
theorem mostBoth {w : World} {A : Option Addr} {n c : Nat} {l : List Nat} (hA : A = none → n = 0) (hn : l.length = n) (hc : n ≤ c) (hm : n ≤ 200) (hl : Lies w A (l.map uv)) (hw : ∀ x ∈ l, x < 2 ^ 64) : MostBoth w (.slice A n c) (wmost l) :=
  ⟨most_any A n c l w hA hn hc (by omega) hl hw, rmost_any A n c l w hA hn hc (by omega) hl hw⟩

set_option maxHeartbeats 400000 in
set_option maxRecDepth 100000 in
theorem WidthsBits_walk (w : World) (ht : WTab w) (x : Int) (x0 : 0 ≤ x) (x1 : x < 18446744073709551616) (A : Option Addr) (n c : Nat) (l : List Nat) (hA : A = none → n = 0) (hn : l.length = n) (hc : n ≤ c) (hm : c ≤ maxLen) (hl : Lies w A (l.map uv)) (hw : ∀ x ∈ l, x < 2 ^ 64) :
    Calls Tryd.prog 4 #[.int .u64 x, .slice A n c] w fun e w' => e = .returned (.bool true) ∧ Below w.heap.size w w' := by
  have HT := Lib.hid ht
  clear ht
  obtain ⟨X, rfl⟩ : ∃ X : Nat, x = X := ⟨x.toNat, by omega⟩
  have HX : Hid (X < 2 ^ 64) := Lib.hid (by omega)
  clear x0 x1
  unfold maxLen at hm
  by_cases hbig : 200 < n
  · obtain ⟨ad, rfl, _, hcell⟩ := hl.cell (k := 0) (by simp; omega)
    clear hcell
    have HM := Lib.hid (mostBoth (w := w) (A := some ad) (n := 200) (c := c) (l := l.take 200) (by intro h; cases h) (by rw [List.length_take]; omega) (by omega) (by omega) (by rw [List.map_take]; exact hl.take 200) fun x hx => hw x (List.mem_of_mem_take hx))
    generalize wmost (l.take 200) = m at *
    clear hA hl hw hn
    go_enter Tryd.func4, Tryd.ntmps4
    go_wp2_with (first | (go_at_call 8; refine (wshown_any _ HT.out).mono ?_; rintro e w' ⟨rfl, rfl⟩) | (go_at_call 15; refine (bits_any _ _ HX.out).mono ?_; rintro e w' ⟨rfl, rfl⟩) | (go_at_call 16; refine (rbits_any _ _ HX.out).mono ?_; rintro e w' ⟨rfl, rfl⟩) | (go_at_call 17; refine (HM.out.one).mono ?_; rintro e w' ⟨rfl, rfl⟩) | (go_at_call 18; refine (HM.out.two).mono ?_; rintro e w' ⟨rfl, rfl⟩))
    go_ret
    exact ⟨rfl, Below.refl _ _⟩
  · have HM := Lib.hid (mostBoth hA hn hc (by omega) hl hw)
    generalize wmost l = m at *
    clear hA hl hw hn
    go_enter Tryd.func4, Tryd.ntmps4
    go_wp2_with (first | (go_at_call 8; refine (wshown_any _ HT.out).mono ?_; rintro e w' ⟨rfl, rfl⟩) | (go_at_call 15; refine (bits_any _ _ HX.out).mono ?_; rintro e w' ⟨rfl, rfl⟩) | (go_at_call 16; refine (rbits_any _ _ HX.out).mono ?_; rintro e w' ⟨rfl, rfl⟩) | (go_at_call 17; refine (HM.out.one).mono ?_; rintro e w' ⟨rfl, rfl⟩) | (go_at_call 18; refine (HM.out.two).mono ?_; rintro e w' ⟨rfl, rfl⟩))
    go_ret
    exact ⟨rfl, Below.refl _ _⟩

set_option maxRecDepth 100000 in
theorem WidthsBits_lifted (os : Os) (started : os.Started) (H : Type) (enc : TypeId × Value → H) :
    ReturnsInHanded {} Tryd.checked os 4 .any (fun w args => (Rows.widthsBitsSpec.pre enc Tryd.prog Tryd.f4 [] false w args ∧ laidMetH Tryd.prog [("pilaster/widths.table", Rows.laid_pilaster_widths_table)] w) ∧ sizedMet enc Tryd.prog Tryd.f4 (OpenSpec.ofChange Rows.widthsBitsSpec) false w args) (Rows.widthsBitsSpec.post enc Tryd.prog Tryd.f4 false true false false) := by
  refine returnsInHanded_of_change_and (C := Tryd.checked) (X := fun w _ => laidMetH Tryd.prog [("pilaster/widths.table", Rows.laid_pilaster_widths_table)] w) (fun _ _ _ hh h => h.of_heap hh) own started (by kernel_rfl) Tryd.func4
    (ChangeSpec.witness_shaped (enc := enc) (C := Tryd.checked) (os := os) (X := fun w _ => laidMetH Tryd.prog [("pilaster/widths.table", Rows.laid_pilaster_widths_table)] w) false (World.doorLaid Tryd.prog 400 os) #[.int .u64 0, .slice none 0 0] 8 rfl (World.shaped_of_RefB (by kernel_rfl) (by kernel_rfl)) (by kernel_rfl) (by kernel_rfl) (by kernel_rfl) (door_met os _)) ?_
  intro W base args ds gs before hval0 hW _ _ hL _
  have hT := tab_of hL
  clear hL
  have hval : ∀ (j : Nat) t v, Tryd.f4.params[j]? = some t → args[j]? = some v → Value.okWide Tryd.prog W .any base t v := hval0
  have hW' := hW
  obtain ⟨p, q, hT0, hV, rfl, hfz, hnd⟩ := hW
  have hA : DataW.TrodAll enc Tryd.prog W 0 (fun _ => true) true Tryd.f4.params.toList args.toList ds p := hT0
  rw [Tryd.params4] at hA hval
  obtain ⟨v0, vs0, d0, ds0, p0, q0, hargs, rfl, rfl, h0, r0⟩ := trodAll_cons hA
  obtain ⟨v1, vs1, d1, ds1, p1, q1, rfl, rfl, rfl, h1, r1⟩ := trodAll_cons r0
  obtain ⟨rfl, rfl, rfl⟩ := trodAll_nil r1
  obtain rfl : args = #[v0, v1] := by cases args; simp_all
  obtain ⟨rfl, rfl⟩ := trodVars_none hV
  obtain ⟨a0, rfl, rfl, rfl, w0⟩ := open_int Tryd.underlying25 (hval 0 25 v0 rfl rfl) h0
  have hlt1 : ∀ x ∈ p1, x.block < W.heap.size := fun x hx => hW'.lt x (by simp [hx])
  obtain ⟨A1, n1, c1, l1, rfl, hA1, hn1, hc1, hm1, hl1, hw1⟩ := open_u64s Tryd.underlying26 Tryd.underlying25 (by kernel_rfl) (hval 1 26 v1 rfl rfl) h1 hlt1
  clear hT0 hval0
  refine (WidthsBits_walk W hT a0 (wf_u64 w0).1 (wf_u64 w0).2 A1 n1 c1 l1 hA1 hn1 hc1 hm1 hl1 hw1).mono fun e W' ⟨he, hb⟩ => ?_
  subst he
  exact ⟨_, rfl, law_post laidOut Tryd.underlying4 (by kernel_rfl) (by kernel_rfl) rfl hW' rfl hb⟩

theorem WidthsBits_over : Rows.widthsBitsRow.holds Tryd.pinned (OpenSpec.ofChange Rows.widthsBitsSpec) :=
  OpenClaim.holds_of_wide 4 Tryd.f4 rfl rfl rfl rfl rfl rfl rfl ⟨rfl, rfl, rfl, rfl, rfl⟩ rfl rfl rfl rfl rfl (by kernel_rfl) Tryd.func4 (by kernel_rfl)
    (of_decide_eq_true (by kernel_rfl)) (by unfold Func.isWrapper; first | (rw [if_pos (by decide +kernel)]; kernel_rfl) | (rw [if_neg (by decide +kernel)]; exact ⟨rfl, rfl⟩))
    (fun os started H enc _ => WidthsBits_lifted os started H enc)

theorem WidthsBits_holds : Rows.WidthsBitsCardSaid :=
  Claim7.holds_tied_plain_at .later [] _ true _ _ WidthsBits_over (fun _ h => by cases h) (by kernel_rfl) (fun _ h => by cases h) widthsBits_row_tie rfl ⟨rfl, rfl⟩ (by kernel_rfl) rfl
    (fun f fn hf hfn => by
      obtain rfl : f = 4 := Option.some.inj ((show Tryd.prog.funcNamed "pilaster/pilasterlaw02.WidthsBits" = some 4 by kernel_rfl).symm.trans hf) |>.symm
      obtain rfl : fn = Tryd.f4 := (Option.some.inj (Tryd.func4.symm.trans hfn)).symm
      exact ⟨by kernel_rfl, fun j t ht => stand_ins (by kernel_rfl) ht⟩)
    (by kernel_rfl)
#print axioms WidthsBits_holds
end Go.Proofs.YtgngdfgfjghbbaaDoor
