
/- The statement RleSame: for any number, any rise, any times, the law answers true. No condition. -/

import Derived.Test.YtnbiopihcbnkpaaDoorG6
namespace Go.Proofs.YtnbiopihcbnkpaaDoor

open Go.RowKit Go.ChangeShapes Go.WideShapes Go.ChangeAt

theorem two_rows {w w' : World} {b k n m : Nat} {e : TypeId} {v1 v2 v1' : Value} {xs ys : List Value} (h1 : w.ownsRow b e 1 v2 m ys) (h2 : v1.ownBlock ≠ none) (hne : v1.ownBlock ≠ v2.ownBlock) (hg : w.grownBy w' v1.ownBlock) (hq : v1'.ownBlock = v1.ownBlock ∨ v1'.ownBlock = some k) (hk : w.heap.size ≤ k) (_hx : xs.length = n) :
    w'.ownsRow b e 1 v2 m ys ∧ v1'.ownBlock ≠ v2.ownBlock ∧ v1'.ownBlock ≠ none := by
  refine ⟨h1.kept hg (.inr fun h => hne h.symm), ?_, ?_⟩
  · rcases hq with hq | hq
    · rw [hq]; exact hne
    · rw [hq]
      rcases h1.2 with ⟨h3, _⟩ | ⟨g, c, cur, h3, _, h4, _⟩
      · rw [h3]; intro h; cases h
      · rw [h3]
        intro h
        injection h with h
        have := (Array.getElem?_eq_some_iff.1 h4).1
        dsimp only at h
        omega
  · rcases hq with hq | hq
    · rw [hq]; exact h2
    · rw [hq]; intro h; cases h
def USamRel (X D : Int) (n : Nat) (w : World) (va vb i : Value) (wr : World) : Prop :=
  ∃ (k : Nat) (xs ys : List Int), k ≤ n ∧ i = .int .i64 (k : Int) ∧ xs = List.replicate k X ∧ ys = uprog X D k ∧ wr.ownsRow w.heap.size 3 1 va k (xs.map iv) ∧ wr.ownsRow w.heap.size 3 1 vb k (ys.map iv) ∧ va.ownBlock ≠ vb.ownBlock ∧ va.ownBlock ≠ none ∧ vb.ownBlock ≠ none ∧ Below w.heap.size w wr
set_option maxHeartbeats 4000000 in
set_option maxRecDepth 100000 in
theorem RleSame_walk (w : World) (ht : WTab w) (x : Int) (hx0 : -9223372036854775808 ≤ x) (hx1 : x ≤ 9223372036854775807) (step : Int) (_hs0 : -9223372036854775808 ≤ step) (_hs1 : step ≤ 9223372036854775807) (times : Int) (_hti0 : -9223372036854775808 ≤ times) (_hti1 : times ≤ 9223372036854775807) :
    Calls Tryd.prog 4 #[.int .i64 x, .int .i64 step, .int .i64 times] w fun e w' => e = .returned (.bool true) ∧ Below w.heap.size w w' := by
  have HT := Lib.hid ht
  obtain ⟨X, hX⟩ : ∃ X, X = x / 16384 := ⟨_, rfl⟩
  have HXB : Hid (-562949953421312 ≤ X ∧ X < 562949953421312) := Lib.hid (by omega)
  have hsh : x / 16384 = X := hX.symm
  have hm1 := i64_mask times 8 (by omega)
  have hm2 := i64_mask step 10 (by omega)
  rw [show (2 ^ 8 - 1 : Nat) = 255 from rfl, show (2 ^ 8 : Nat) = 256 from rfl] at hm1
  rw [show (2 ^ 10 - 1 : Nat) = 1023 from rfl, show (2 ^ 10 : Nat) = 1024 from rfl] at hm2
  obtain ⟨t, ht'⟩ : ∃ t : Nat, times % 256 = (t : Int) := ⟨(times % 256).toNat, by omega⟩
  obtain ⟨d, hd⟩ : ∃ d : Nat, step % 1024 = (d : Int) := ⟨(step % 1024).toNat, by omega⟩
  have hm1' : bits .and .i64 times 255 = (t : Int) := by rw [← ht']; exact hm1
  have hm2' : bits .and .i64 step 1023 = (d : Int) := by rw [← hd]; exact hm2
  have ht256 : t ≤ 255 := by omega
  have hd1024 : d ≤ 1023 := by omega
  obtain ⟨n, hn⟩ : ∃ n, n = 3 + t := ⟨_, rfl⟩
  have hni : 3 + (t : Int) = (n : Int) := by omega
  have hn3 : 3 ≤ n := by omega
  have hn5 : n ≤ 258 := by omega
  obtain ⟨D, hD⟩ : ∃ D : Nat, D = 1 + d := ⟨_, rfl⟩
  have hDi : 1 + (d : Int) = (D : Int) := by omega
  have hD4 : D ≤ 1024 := by omega
  have hDn : 0 ≤ D := Nat.zero_le _
  clear ht hX hm1 hm2 ht' hd hn hD ht256 hd1024 hx0 hx1
  go_enter Tryd.func4, Tryd.ntmps4
  go_wp2_with fail
  refine (shown_any _ HT.out).mono ?_
  rintro e w1 ⟨rfl, hb1⟩
  have HT := Lib.hid (WTab.below HT.out hb1 (WTab.lt HT.out))
  have HB := Lib.hid hb1
  clear hb1
  have hownA : ((w1.alloc (.cells #[] 3)).alloc (.cells #[] 3)).ownsRow w1.heap.size 3 1 (.slice (some ⟨w1.heap.size, 0, none⟩) 0 0) 0 [] := (own_made w1 3).alloc _
  have hownB := own_base (by simp : w1.heap.size ≤ (w1.alloc (.cells #[] 3)).heap.size) (own_made (w1.alloc (.cells #[] 3)) 3)
  rw [show (w1.alloc (.cells #[] 3)).heap.size = w1.heap.size + 1 by simp] at hownB
  have hbA : Below w1.heap.size w1 ((w1.alloc (.cells #[] 3)).alloc (.cells #[] 3)) := ((Below.refl _ _).alloc (Nat.le_refl _) _).alloc (by simp) _
  have h0st : USamRel X (D : Int) n w1 (.slice (some ⟨w1.heap.size, 0, none⟩) 0 0) (.slice (some ⟨w1.heap.size + 1, 0, none⟩) 0 0) (.int .i64 0) ((w1.alloc (.cells #[] 3)).alloc (.cells #[] 3)) :=
    ⟨0, [], [], by omega, rfl, rfl, rfl, hownA, hownB, by simp [Value.ownBlock], by simp [Value.ownBlock], by simp [Value.ownBlock], hbA⟩
  have HST := Lib.hid h0st
  clear h0st hownA hownB hbA
  go_wp2
  go_loopw [9, 10, 11] (USamRel X (D : Int) n w1) (fun _ _ i _ => n - (intOf i).toNat)
  case atStart => exact HST.out
  case round =>
    obtain ⟨k, xs, ys, hk, rfl, hxs, hys, hoa, hob, hne, hna, hnb, hbw⟩ := hrel
    have HSTT := HST
    clear HST
    have HXS := Lib.hid hxs
    have HYS := Lib.hid hys
    have HNE := Lib.hid hne
    have HNA := Lib.hid hna
    have HNB := Lib.hid hnb
    have hz := hbw.size
    clear hxs hys hne hna hnb
    by_cases hlt : k < n
    · have hlti : (k : Int) < (n : Int) := by omega
      obtain ⟨P, hP⟩ : ∃ P, P = (k : Int) * (D : Int) := ⟨_, rfl⟩
      have hPb : 0 ≤ P ∧ P ≤ 264192 := by
        constructor
        · rw [hP]; exact Int.mul_nonneg (by omega) (by omega)
        · have : (k : Int) * (D : Int) ≤ 258 * 1024 := Int.mul_le_mul (by omega) (by omega) (by omega) (by omega)
          omega
      have hPi : (k : Int) * (D : Int) = P := hP.symm
      obtain ⟨Z, hZ⟩ : ∃ Z, X + P = Z := ⟨_, rfl⟩
      have HZ := Lib.hid (show Z = X + (k : Int) * (D : Int) by rw [← hP, hZ])
      have HXB2 := HXB.out
      have hZb : -562949953421312 ≤ Z ∧ Z ≤ 562949953685504 := by omega
      clear hP HXB2
      go_wp2_with (at_builtin; refine wpList_push elemI rfl _ _ rfl w1.heap.size _ _ _ (iv X) wr w1 rfl rfl rfl rfl hoa hbw hz (by omega) (by omega) ?_)
      intro v5 w5 hoa5 hb5 hg5 hq5
      obtain ⟨hob5, hne5, hna5⟩ := two_rows (xs := xs.map iv) (n := (xs.map iv).length) hob HNA.out HNE.out hg5 hq5 (by omega) rfl
      have hz5 := hb5.size
      have HOA5 := Lib.hid hoa5
      have HNE5 := Lib.hid hne5
      have HNA5 := Lib.hid hna5
      clear hoa hob hoa5 hg5 hq5 hne5 hna5 hbw
      go_wp2_with (at_builtin; refine wpList_push elemI rfl _ _ rfl w1.heap.size _ _ _ (iv Z) w5 w1 rfl rfl rfl rfl hob5 hb5 hz5 (by omega) (by omega) ?_)
      intro v6 w6 hob6 hb6 hg6 hq6
      obtain ⟨hoa6, hne6, hnb6⟩ := two_rows (xs := ys.map iv) (n := (ys.map iv).length) HOA5.out HNB.out (fun h => HNE5.out h.symm) hg6 hq6 (by omega) rfl
      have HREL : Hid (USamRel X (D : Int) n w1 v5 v6 (.int .i64 ((k : Int) + 1)) w6) := Lib.hid ⟨k + 1, xs ++ [X], ys ++ [Z], by omega, by go_num, by rw [List.replicate_succ', HXS.out], by rw [uprog_succ, HYS.out, HZ.out], by rw [List.map_append]; exact hoa6, by rw [List.map_append]; exact hob6, fun h => hne6 h.symm, HNA5.out, hnb6, hb6⟩
      clear hob5 hob6 hb5 hb6 hg6 hq6 hoa6 hne6 hnb6
      go_wp2
      go_roundw
      case rel => exact HREL.out
      case measure => simp [intOf]; omega
    · obtain rfl : k = n := by omega
      have hlti : ¬ (k : Int) < (k : Int) := by omega
      have HOA := Lib.hid (isV_own (f := iv) hoa)
      have HOB := Lib.hid (isV_own (f := iv) hob)
      have HT := Lib.hid (HT.out.below hbw HT.out.lt)
      have HB := Lib.hid (below_then HB.out hbw)
      obtain ⟨u0, u1, hyi, hyp⟩ := uprog_run (x := X) (d := (D : Int)) (by omega) (by omega) hn3 hn5 HXB.out
      obtain ⟨_, _, hxi, _⟩ := uprog_run (x := X) (d := 0) (by omega) (by omega) hn3 hn5 HXB.out
      obtain ⟨p0, p1⟩ := urep_put (x := X) hn3 hn5 HXB.out
      have hcut := urep_cut (x := X) hn3 hn5
      rw [uprog_zero] at hxi
      rw [← HXS.out] at p0 p1 hxi hcut
      rw [← HYS.out] at u0 u1 hyi
      have HXL : Hid (xs.length ≤ 258) := Lib.hid (by rw [HXS.out, List.length_replicate]; exact hn5)
      have HYL : Hid (ys.length ≤ 258) := Lib.hid (by rw [HYS.out, uprog_len]; exact hn5)
      obtain ⟨pa, hpa⟩ : ∃ pa, uputE xs true = (pa, 0) := ⟨(uputE xs true).1, Prod.ext rfl p0⟩
      obtain ⟨qb, hqb⟩ : ∃ qb, urunE ys true = (qb, 0) := ⟨(urunE ys true).1, Prod.ext rfl u0⟩
      rw [hpa] at p1
      rw [hqb] at u1
      have HPL := Lib.hid p1
      have HQL := Lib.hid u1
      have HQB := Lib.hid hqb
      have HYI := Lib.hid hyi
      have HCUT := Lib.hid hcut
      have HPA := Lib.hid (uput_any xs _ true wr HT.out HOA.out hxi (by have := HXL.out; omega))
      rw [hpa] at HPA
      dsimp only at HPL HQL
      clear u0 u1 hyi hyp hxi p0 p1 hcut hpa hqb hoa hob hbw hz
      generalize hnn : k = n at *
      clear hnn
      go_wp2_with fail
      refine (HPA.out).mono ?_
      rintro e w41 ⟨a, rfl, ha, hb41⟩
      have HT := Lib.hid (WTab.below HT.out hb41 (WTab.lt HT.out))
      have HOA := Lib.hid (IsV.below HOA.out hb41)
      have HOB := Lib.hid (IsV.below HOB.out hb41)
      have HB := Lib.hid (below_then HB.out hb41)
      have HA := Lib.hid ha
      clear ha hb41
      have HPB := Lib.hid (urun_any ys _ true w41 HT.out HOB.out HYI.out (by have := HYL.out; omega))
      rw [HQB.out] at HPB
      go_wp2_with fail
      refine (HPB.out).mono ?_
      rintro e w42 ⟨b, rfl, hb, hb42⟩
      have HT := Lib.hid (WTab.below HT.out hb42 (WTab.lt HT.out))
      have HOA := Lib.hid (IsV.below HOA.out hb42)
      have HOB := Lib.hid (IsV.below HOB.out hb42)
      have HA := Lib.hid (IsB.below HA.out hb42)
      have HB := Lib.hid (below_then HB.out hb42)
      have HBB := Lib.hid hb
      clear hb hb42
      obtain ⟨Aa, na, ca, rfl⟩ := IsV.shape (f := bv) HA.out
      obtain ⟨Ab, nb, cb, rfl⟩ := IsV.shape (f := bv) HBB.out
      have hna := (IsV.parts (f := bv) (show IsV bv pa _ _ from HA.out)).1
      have hnb := (IsV.parts (f := bv) (show IsV bv qb _ _ from HBB.out)).1
      have d2 : (na : Int) ≤ 13 := by have := HPL.out; omega
      have d3 : (nb : Int) ≤ 14 := by have := HQL.out; omega
      clear hna hnb
      go_wp2_with fail
      refine (ucut_any xs _ _ HOA.out (by have := HXL.out; omega)).mono ?_
      rintro e w43 ⟨rfl, hb43⟩
      have HT := Lib.hid (WTab.below HT.out hb43 (WTab.lt HT.out))
      have HOA := Lib.hid (IsV.below HOA.out hb43)
      have HOB := Lib.hid (IsV.below HOB.out hb43)
      have HA := Lib.hid (IsB.below HA.out hb43)
      have HBB := Lib.hid (IsB.below HBB.out hb43)
      have HB := Lib.hid (below_then HB.out hb43)
      clear hb43
      rw [HCUT.out]
      have hz : ((n : Int) == (n : Int)) = true := by simp
      go_wp2
      go_ret
      exact ⟨rfl, HB.out⟩

set_option maxRecDepth 100000 in
theorem RleSame_lifted (os : Os) (started : os.Started) (H : Type) (enc : TypeId × Value → H) :
    ReturnsInHanded {} Tryd.checked os 4 .any (fun w args => (Rows.rleSameSpec.pre enc Tryd.prog Tryd.f4 [] false w args ∧ laidMetH Tryd.prog [("pilaster/widths.table", Rows.laid_pilaster_widths_table)] w) ∧ sizedMet enc Tryd.prog Tryd.f4 (OpenSpec.ofChange Rows.rleSameSpec) false w args) (Rows.rleSameSpec.post enc Tryd.prog Tryd.f4 false true false false) := by
  refine returnsInHanded_of_change_and (C := Tryd.checked) (X := fun w _ => laidMetH Tryd.prog [("pilaster/widths.table", Rows.laid_pilaster_widths_table)] w) (fun _ _ _ hh h => h.of_heap hh) own started (by kernel_rfl) Tryd.func4
    (ChangeSpec.witness_shaped (enc := enc) (C := Tryd.checked) (os := os) (X := fun w _ => laidMetH Tryd.prog [("pilaster/widths.table", Rows.laid_pilaster_widths_table)] w) false (World.doorLaid Tryd.prog 400 os) #[.int .i64 0, .int .i64 0, .int .i64 0] 8 rfl (World.shaped_of_RefB (by kernel_rfl) (by kernel_rfl)) (by kernel_rfl) (by kernel_rfl) (by kernel_rfl) (door_met os _)) ?_
  intro W base args ds gs before hval0 hW _ _ hL _
  have hT := tab_of hL
  clear hL
  have hval : ∀ (j : Nat) t v, Tryd.f4.params[j]? = some t → args[j]? = some v → Value.okWide Tryd.prog W .any base t v := hval0
  have hW' := hW
  obtain ⟨p, q, hT0, hV, rfl, hfz, hnd⟩ := hW
  have hA : DataW.TrodAll enc Tryd.prog W 0 (fun _ => true) true Tryd.f4.params.toList args.toList ds p := hT0
  rw [Tryd.params4] at hA hval
  obtain ⟨v0, vs0, d0, ds0, p0, q0, hargs, rfl, rfl, h0, r0⟩ := trodAll_cons hA
  obtain ⟨v1, vs1, d1, ds1, p1, q1, rfl, rfl, rfl, h1, r1⟩ := trodAll_cons r0
  obtain ⟨v2, vs2, d2, ds2, p2, q2, rfl, rfl, rfl, h2, r2⟩ := trodAll_cons r1
  obtain ⟨rfl, rfl, rfl⟩ := trodAll_nil r2
  obtain rfl : args = #[v0, v1, v2] := by cases args; simp_all
  obtain ⟨rfl, rfl⟩ := trodVars_none hV
  obtain ⟨a0, rfl, rfl, rfl, w0⟩ := open_int Tryd.underlying3 (hval 0 3 v0 rfl rfl) h0
  obtain ⟨a1, rfl, rfl, rfl, w1⟩ := open_int Tryd.underlying3 (hval 1 3 v1 rfl rfl) h1
  obtain ⟨a2, rfl, rfl, rfl, w2⟩ := open_int Tryd.underlying3 (hval 2 3 v2 rfl rfl) h2
  clear hT0 hval0
  refine (RleSame_walk W hT a0 (wf_i64 w0).1 (wf_i64 w0).2 a1 (wf_i64 w1).1 (wf_i64 w1).2 a2 (wf_i64 w2).1 (wf_i64 w2).2).mono fun e W' ⟨he, hb⟩ => ?_
  subst he
  exact ⟨_, rfl, law_post laidOut Tryd.underlying4 (by kernel_rfl) (by kernel_rfl) rfl hW' rfl hb⟩

theorem RleSame_over : Rows.rleSameRow.holds Tryd.pinned (OpenSpec.ofChange Rows.rleSameSpec) :=
  OpenClaim.holds_of_wide 4 Tryd.f4 rfl rfl rfl rfl rfl rfl rfl ⟨rfl, rfl, rfl, rfl, rfl⟩ rfl rfl rfl rfl rfl (by kernel_rfl) Tryd.func4 (by kernel_rfl)
    (of_decide_eq_true (by kernel_rfl)) (by unfold Func.isWrapper; first | (rw [if_pos (by decide +kernel)]; kernel_rfl) | (rw [if_neg (by decide +kernel)]; exact ⟨rfl, rfl⟩))
    (fun os started H enc _ => RleSame_lifted os started H enc)

theorem RleSame_holds : Rows.RleSameCardSaid :=
  Claim7.holds_tied_plain_at .later [] _ true _ _ RleSame_over (fun _ h => by cases h) (by kernel_rfl) (fun _ h => by cases h) rleSame_row_tie rfl ⟨rfl, rfl⟩ (by kernel_rfl) rfl
    (fun f fn hf hfn => by
      obtain rfl : f = 4 := Option.some.inj ((show Tryd.prog.funcNamed "pilaster/pilasterlaw11.RleSame" = some 4 by kernel_rfl).symm.trans hf) |>.symm
      obtain rfl : fn = Tryd.f4 := (Option.some.inj (Tryd.func4.symm.trans hfn)).symm
      exact ⟨by kernel_rfl, fun j t ht => stand_ins (by kernel_rfl) ht⟩)
    (by kernel_rfl)
#print axioms RleSame_holds

end Go.Proofs.YtnbiopihcbnkpaaDoor
