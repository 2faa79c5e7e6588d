/- The statement WidthsRoom: for every number the law answers true. The table is what the program's text lays. -/
import Derived.Test.YtgngdfgfjghbbaaDoorWMost
import Derived.Test.YtgngdfgfjghbbaaDoorLaw
import Derived.Test.YtgngdfgfjghbbaaDoorTie
import Derived.Test.YtgngdfgfjghbbaaDoorCards
import Derived.SevenTiedAt
import Derived.Stop.Joined
import Derived.Test.YtgngdfgfjghbbaaDoorWShown
namespace Go.Proofs.YtgngdfgfjghbbaaDoor
open Go.RowKit Go.ChangeShapes Go.WideShapes Go.ChangeAt

def CallsT (f : Nat) (v : Value) (r : Int) : Prop := ∀ w, WTab w → Calls Tryd.prog f #[v] w fun e w' => e = .returned (.int .i64 r) ∧ w = w'
theorem CallsT.on {f : Nat} {v : Value} {r : Int} {w : World} (h : CallsT f v r) (ht : WTab w) : Calls Tryd.prog f #[v] w fun e w' => e = .returned (.int .i64 r) ∧ w = w' := h w ht
theorem pow_wrap {k : Nat} (h : k < 64) : IntKind.u64.wrap (2 ^ k) = ((2 ^ k : Nat) : Int) := by
  have : 2 ^ k < 2 ^ 64 := Nat.pow_lt_pow_right (by omega) h
  rw [IntKind.wrap_u64]
  have e : (2 : Int) ^ k = ((2 ^ k : Nat) : Int) := by push_cast; rfl
  rw [e]
  generalize 2 ^ k = m at *
  omega

set_option maxHeartbeats 4000000 in
set_option maxRecDepth 100000 in
theorem WidthsRoom_walk (w : World) (ht : WTab w) (x : Int) (x0 : 0 ≤ x) (x1 : x < 18446744073709551616) :
    Calls Tryd.prog 6 #[.int .u64 x] w fun e w' => e = .returned (.bool true) ∧ Below w.heap.size w w' := by
  have HT := Lib.hid ht
  clear ht
  obtain ⟨X, rfl⟩ : ∃ X : Nat, x = X := ⟨x.toNat, by omega⟩
  have HX : Hid (X < 2 ^ 64) := Lib.hid (by omega)
  clear x0 x1
  have hn := wbits_64 HX.out
  obtain ⟨r1, r2, r3, r4, r5⟩ := wroom ⟨wbits X, by omega⟩
  simp only at r1 r2 r3 r4 r5
  have r6 := (wclosest_bd (wbits X : Int)).2
  have r7 := (wcode_bd (wclosest (wbits X : Int))).2
  have r8 := wof_bd (wcode (wclosest (wbits X : Int)) - 1)
  have CB : Hid (CallsT 15 (.int .u64 (X : Int)) (wbits X : Int)) := Lib.hid (fun w _ => bits_any X w HX.out)
  have CL : Hid (CallsT 13 (.int .i64 (wbits X : Int)) (wclosest (wbits X : Int))) := Lib.hid (fun w ht => closest_any _ w ht)
  have CC : Hid (CallsT 11 (.int .i64 (wclosest (wbits X : Int))) (wcode (wclosest (wbits X : Int)))) := Lib.hid (fun w ht => code_any _ w ht)
  have CO : Hid (CallsT 9 (.int .i64 (wcode (wclosest (wbits X : Int)) - 1)) (wof (wcode (wclosest (wbits X : Int)) - 1))) := Lib.hid (fun w ht => of_any _ w ht (by omega) (by omega))
  have hlt := wbits_lt HX.out
  have hge : X ≠ 0 → 1 ≤ wbits X ∧ 2 ^ (wbits X - 1) ≤ X := fun h => ⟨(wbits_bounds HX.out h).1, (wbits_bounds HX.out h).2.1⟩
  have h00 : X = 0 → wbits X = 0 := fun h => by rw [h]; rfl
  have hfit : wclosest (wbits X : Int) ≠ 64 → (X : Int) < IntKind.u64.wrap (2 ^ (wclosest (wbits X : Int)).toNat) := fun h => by
    rw [pow_wrap (by omega)]
    have : 2 ^ wbits X ≤ 2 ^ (wclosest (wbits X : Int)).toNat := Nat.pow_le_pow_right (by omega) (by omega)
    omega
  have hges : 0 < wcode (wclosest (wbits X : Int)) → IntKind.u64.wrap (2 ^ (wof (wcode (wclosest (wbits X : Int)) - 1)).toNat) ≤ (X : Int) := fun h => by
    have h1 := r4 h
    have h2 := hge (fun h0 => by have := h00 h0; omega)
    rw [pow_wrap (by omega)]
    have : 2 ^ (wof (wcode (wclosest (wbits X : Int)) - 1)).toNat ≤ 2 ^ (wbits X - 1) := Nat.pow_le_pow_right (by omega) (by omega)
    omega
  have hx0 : (X : Int) ≠ 0 → 1 ≤ (wbits X : Int) := fun h => by have := (hge (by omega)).1; omega
  have h000 : (X : Int) = 0 → (wbits X : Int) = 0 := fun h => by have := h00 (by omega); omega
  have hn' : (wbits X : Int) ≤ 64 := by omega
  have hn0 : 0 ≤ (wbits X : Int) := by omega
  have hX0 : 0 ≤ (X : Int) := by omega
  clear hlt hge h00 hn r5
  generalize wof (wcode (wclosest (wbits X : Int)) - 1) = L at *
  generalize wcode (wclosest (wbits X : Int)) = C at *
  generalize wclosest (wbits X : Int) = V at *
  generalize (wbits X : Int) = N at *
  clear HX
  generalize (X : Int) = x at *
  obtain ⟨r8, r9⟩ := r8
  have HX0 := Lib.hid hx0
  have H00 := Lib.hid h000
  have HFIT := Lib.hid hfit
  have HGES := Lib.hid hges
  have HR4 := Lib.hid r4
  clear hx0 h000 hfit hges r4
  by_cases hz : x = 0
  · have hN := H00.out hz
    have hz' : (x == 0) = true := by simpa using hz
    have hN' : (N == 0) = true := by simpa using hN
    obtain hC : C = 0 := by
      rcases (by omega : C = 0 ∨ 0 < C) with h | h
      · exact h
      · have := HR4.out h; omega
    have h5 : 0 < V := by omega
    subst hC
    clear hz hN
    by_cases h64 : V = 64
    · have h64' : (V == 64) = true := by simpa using h64
      clear h64
      go_enter Tryd.func6, Tryd.ntmps6
      go_wp2_with (first | (go_at_call 8; refine (wshown_any _ HT.out).mono ?_; rintro e w' ⟨rfl, rfl⟩) | (go_at_call 15; (with_reducible refine (CB.out.on HT.out).mono ?_); rintro e w' ⟨rfl, rfl⟩) | (go_at_call 11; (with_reducible refine (CC.out.on HT.out).mono ?_); rintro e w' ⟨rfl, rfl⟩) | (go_at_call 13; (with_reducible refine (CL.out.on HT.out).mono ?_); rintro e w' ⟨rfl, rfl⟩) | (go_at_call 9; (with_reducible refine (CO.out.on HT.out).mono ?_); rintro e w' ⟨rfl, rfl⟩))
      go_ret
      exact ⟨rfl, Below.refl _ _⟩
    · have h64' : (V == 64) = false := by simpa using h64
      have hf := HFIT.out h64
      clear h64
      go_enter Tryd.func6, Tryd.ntmps6
      go_wp2_with (first | (go_at_call 8; refine (wshown_any _ HT.out).mono ?_; rintro e w' ⟨rfl, rfl⟩) | (go_at_call 15; (with_reducible refine (CB.out.on HT.out).mono ?_); rintro e w' ⟨rfl, rfl⟩) | (go_at_call 11; (with_reducible refine (CC.out.on HT.out).mono ?_); rintro e w' ⟨rfl, rfl⟩) | (go_at_call 13; (with_reducible refine (CL.out.on HT.out).mono ?_); rintro e w' ⟨rfl, rfl⟩) | (go_at_call 9; (with_reducible refine (CO.out.on HT.out).mono ?_); rintro e w' ⟨rfl, rfl⟩))
      go_ret
      exact ⟨rfl, Below.refl _ _⟩
  · have hN := HX0.out hz
    have hz' : (x == 0) = false := by simpa using hz
    have hN' : (N == 0) = false := by simp; omega
    clear hz
    rcases (by omega : C = 0 ∨ 0 < C) with h | h
    · subst h
      have h5 : 0 < V := by omega
      by_cases h64 : V = 64
      · have h64' : (V == 64) = true := by simpa using h64
        clear h64
        go_enter Tryd.func6, Tryd.ntmps6
        go_wp2_with (first | (go_at_call 8; refine (wshown_any _ HT.out).mono ?_; rintro e w' ⟨rfl, rfl⟩) | (go_at_call 15; (with_reducible refine (CB.out.on HT.out).mono ?_); rintro e w' ⟨rfl, rfl⟩) | (go_at_call 11; (with_reducible refine (CC.out.on HT.out).mono ?_); rintro e w' ⟨rfl, rfl⟩) | (go_at_call 13; (with_reducible refine (CL.out.on HT.out).mono ?_); rintro e w' ⟨rfl, rfl⟩) | (go_at_call 9; (with_reducible refine (CO.out.on HT.out).mono ?_); rintro e w' ⟨rfl, rfl⟩))
        go_ret
        exact ⟨rfl, Below.refl _ _⟩
      · have h64' : (V == 64) = false := by simpa using h64
        have hf := HFIT.out h64
        clear h64
        go_enter Tryd.func6, Tryd.ntmps6
        go_wp2_with (first | (go_at_call 8; refine (wshown_any _ HT.out).mono ?_; rintro e w' ⟨rfl, rfl⟩) | (go_at_call 15; (with_reducible refine (CB.out.on HT.out).mono ?_); rintro e w' ⟨rfl, rfl⟩) | (go_at_call 11; (with_reducible refine (CC.out.on HT.out).mono ?_); rintro e w' ⟨rfl, rfl⟩) | (go_at_call 13; (with_reducible refine (CL.out.on HT.out).mono ?_); rintro e w' ⟨rfl, rfl⟩) | (go_at_call 9; (with_reducible refine (CO.out.on HT.out).mono ?_); rintro e w' ⟨rfl, rfl⟩))
        go_ret
        exact ⟨rfl, Below.refl _ _⟩
    · have hg := HGES.out h
      have h4 := HR4.out h
      have h5 : L < V := by omega
      have hC' : (C == 0) = false := by simp; omega
      by_cases h64 : V = 64
      · have h64' : (V == 64) = true := by simpa using h64
        clear h64
        go_enter Tryd.func6, Tryd.ntmps6
        go_wp2_with (first | (go_at_call 8; refine (wshown_any _ HT.out).mono ?_; rintro e w' ⟨rfl, rfl⟩) | (go_at_call 15; (with_reducible refine (CB.out.on HT.out).mono ?_); rintro e w' ⟨rfl, rfl⟩) | (go_at_call 11; (with_reducible refine (CC.out.on HT.out).mono ?_); rintro e w' ⟨rfl, rfl⟩) | (go_at_call 13; (with_reducible refine (CL.out.on HT.out).mono ?_); rintro e w' ⟨rfl, rfl⟩) | (go_at_call 9; (with_reducible refine (CO.out.on HT.out).mono ?_); rintro e w' ⟨rfl, rfl⟩))
        go_ret
        exact ⟨rfl, Below.refl _ _⟩
      · have h64' : (V == 64) = false := by simpa using h64
        have hf := HFIT.out h64
        clear h64
        go_enter Tryd.func6, Tryd.ntmps6
        go_wp2_with (first | (go_at_call 8; refine (wshown_any _ HT.out).mono ?_; rintro e w' ⟨rfl, rfl⟩) | (go_at_call 15; (with_reducible refine (CB.out.on HT.out).mono ?_); rintro e w' ⟨rfl, rfl⟩) | (go_at_call 11; (with_reducible refine (CC.out.on HT.out).mono ?_); rintro e w' ⟨rfl, rfl⟩) | (go_at_call 13; (with_reducible refine (CL.out.on HT.out).mono ?_); rintro e w' ⟨rfl, rfl⟩) | (go_at_call 9; (with_reducible refine (CO.out.on HT.out).mono ?_); rintro e w' ⟨rfl, rfl⟩))
        go_ret
        exact ⟨rfl, Below.refl _ _⟩

set_option maxRecDepth 100000 in
theorem WidthsRoom_lifted (os : Os) (started : os.Started) (H : Type) (enc : TypeId × Value → H) :
    ReturnsInHanded {} Tryd.checked os 6 .any (fun w args => (Rows.widthsRoomSpec.pre enc Tryd.prog Tryd.f6 [] false w args ∧ laidMetH Tryd.prog [("pilaster/widths.table", Rows.laid_pilaster_widths_table)] w) ∧ sizedMet enc Tryd.prog Tryd.f6 (OpenSpec.ofChange Rows.widthsRoomSpec) false w args) (Rows.widthsRoomSpec.post enc Tryd.prog Tryd.f6 false true false false) := by
  refine returnsInHanded_of_change_and (C := Tryd.checked) (X := fun w _ => laidMetH Tryd.prog [("pilaster/widths.table", Rows.laid_pilaster_widths_table)] w) (fun _ _ _ hh h => h.of_heap hh) own started (by kernel_rfl) Tryd.func6
    (ChangeSpec.witness_shaped (enc := enc) (C := Tryd.checked) (os := os) (X := fun w _ => laidMetH Tryd.prog [("pilaster/widths.table", Rows.laid_pilaster_widths_table)] w) false (World.doorLaid Tryd.prog 400 os) #[.int .u64 0] 8 rfl (World.shaped_of_RefB (by kernel_rfl) (by kernel_rfl)) (by kernel_rfl) (by kernel_rfl) (by kernel_rfl) (door_met os _)) ?_
  intro W base args ds gs before hval0 hW _ _ hL _
  have hT := tab_of hL
  clear hL
  have hval : ∀ (j : Nat) t v, Tryd.f6.params[j]? = some t → args[j]? = some v → Value.okWide Tryd.prog W .any base t v := hval0
  have hW' := hW
  obtain ⟨p, q, hT0, hV, rfl, hfz, hnd⟩ := hW
  have hA : DataW.TrodAll enc Tryd.prog W 0 (fun _ => true) true Tryd.f6.params.toList args.toList ds p := hT0
  rw [Tryd.params6] at hA hval
  obtain ⟨v0, vs0, d0, ds0, p0, q0, hargs, rfl, rfl, h0, r0⟩ := trodAll_cons hA
  obtain ⟨rfl, rfl, rfl⟩ := trodAll_nil r0
  obtain rfl : args = #[v0] := by cases args; simp_all
  obtain ⟨rfl, rfl⟩ := trodVars_none hV
  obtain ⟨a0, rfl, rfl, rfl, w0⟩ := open_int Tryd.underlying25 (hval 0 25 v0 rfl rfl) h0
  clear hT0 hval0
  refine (WidthsRoom_walk W hT a0 (wf_u64 w0).1 (wf_u64 w0).2).mono fun e W' ⟨he, hb⟩ => ?_
  subst he
  exact ⟨_, rfl, law_post laidOut Tryd.underlying4 (by kernel_rfl) (by kernel_rfl) rfl hW' rfl hb⟩

theorem WidthsRoom_over : Rows.widthsRoomRow.holds Tryd.pinned (OpenSpec.ofChange Rows.widthsRoomSpec) :=
  OpenClaim.holds_of_wide 6 Tryd.f6 rfl rfl rfl rfl rfl rfl rfl ⟨rfl, rfl, rfl, rfl, rfl⟩ rfl rfl rfl rfl rfl (by kernel_rfl) Tryd.func6 (by kernel_rfl)
    (of_decide_eq_true (by kernel_rfl)) (by unfold Func.isWrapper; first | (rw [if_pos (by decide +kernel)]; kernel_rfl) | (rw [if_neg (by decide +kernel)]; exact ⟨rfl, rfl⟩))
    (fun os started H enc _ => WidthsRoom_lifted os started H enc)

theorem WidthsRoom_holds : Rows.WidthsRoomCardSaid :=
  Claim7.holds_tied_plain_at .later [] _ true _ _ WidthsRoom_over (fun _ h => by cases h) (by kernel_rfl) (fun _ h => by cases h) widthsRoom_row_tie rfl ⟨rfl, rfl⟩ (by kernel_rfl) rfl
    (fun f fn hf hfn => by
      obtain rfl : f = 6 := Option.some.inj ((show Tryd.prog.funcNamed "pilaster/pilasterlaw02.WidthsRoom" = some 6 by kernel_rfl).symm.trans hf) |>.symm
      obtain rfl : fn = Tryd.f6 := (Option.some.inj (Tryd.func6.symm.trans hfn)).symm
      exact ⟨by kernel_rfl, fun j t ht => stand_ins (by kernel_rfl) ht⟩)
    (by kernel_rfl)
#print axioms WidthsRoom_holds
end Go.Proofs.YtgngdfgfjghbbaaDoor
