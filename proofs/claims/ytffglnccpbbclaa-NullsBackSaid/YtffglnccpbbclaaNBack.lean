
/- The statement NullsBack: for any values the law answers true. No condition. -/

import Derived.Test.YtffglnccpbbclaaNShown

import Derived.Test.YtffglnccpbbclaaKOpenS

import Derived.Test.YtffglnccpbbclaaLaw

namespace Go.Proofs.Ytffglnccpbbclaa

open Go.RowKit Go.ChangeShapes Go.WideShapes Go.ChangeAt

/-- What is nothing has nothing. -/
def nnorm (x : CV) : CV := if x.null then nul else x
theorem nnorm_null (x : CV) : (nnorm x).null = true → nnorm x = nul := by
  unfold nnorm
  split
  · exact fun _ => rfl
  · rename_i h; exact fun h2 => absurd h2 h
theorem nstream_len {l so : List CV} {st : List UInt8} {x : Int} (h : nputE l = (st, so, x)) (hl : l.length ≤ 4096) : st.length ≤ 1000000 := by
  have h1 : (nputE l).1 = st := by rw [h]
  rw [← h1]
  by_cases ha : (nsome l).length = l.length
  · rw [nputE_all hl ha]; simp
  · rw [nputE_some hl ha]
    have h2 := yput_len _ (qpack (npresent l)) (Nat.le_refl _)
    have h3 := qpack_len (npresent l)
    rw [npresent_len] at h3
    dsimp only
    omega
def BackRel (l : List CV) (w : World) (v i : Value) (wr : World) : Prop :=
  ∃ (k : Nat) (acc : List CV), k ≤ l.length ∧ k ≤ 4096 ∧ i = .int .i64 (k : Int) ∧ acc = (l.take k).map nnorm ∧ wr.ownsRow w.heap.size 42 3 v k (acc.flatMap kcells) ∧ Below w.heap.size w wr
set_option maxHeartbeats 4000000 in
set_option maxRecDepth 100000 in
theorem NullsBack_walk (w : World) (v0 : Value) (l0 : List CV) (hI0 : IsR kcells l0 v0 w) (_hi0 : ∀ x ∈ l0, x.inInt) (_hs0 : ∀ x ∈ l0, x.s.size ≤ maxLen) :
    Calls Try.prog 6 #[v0] w fun e w' => e = .returned (.bool true) ∧ Below w.heap.size w w' := by
  have HL := Lib.hid hI0
  clear hI0 _hi0 _hs0
  go_enter Try.func6, Try.ntmps6
  go_wp2_with fail
  refine (shown_any _).mono ?_
  rintro e w1 ⟨rfl, hb1⟩
  have HL := Lib.hid (IsR.below HL.out hb1)
  have HB := Lib.hid hb1
  clear hb1
  have hst : BackRel l0 w1 (.slice (some ⟨w1.heap.size, 0, none⟩) 0 0) (.int .i64 0) (w1.alloc (.cells #[] 42)) := ⟨0, [], by omega, by omega, rfl, rfl, ownW_made w1 _ 3, (Below.refl _ _).alloc (Nat.le_refl _) _⟩
  obtain ⟨A0, n0, c0, rfl⟩ := IsR.shape HL.out
  obtain ⟨hn0, -, hc0, hm0, -⟩ := IsR.parts HL.out
  have hc0i : (c0 : Int) ≤ 9223372036854775807 := by unfold maxLen at hm0; omega
  have HN0 := Lib.hid hn0
  clear hn0 hm0
  go_wp2
  go_loopw [4, 5] (BackRel l0 w1) (fun _ i _ => 4097 - (intOf i).toNat)
  case atStart => exact hst
  case round =>
    obtain ⟨k, own, hkl, hk5, rfl, hown', hown, hbw⟩ := hrel
    clear hst
    have hkn : k ≤ n0 := by have := HN0.out; omega
    have hz := hbw.size
    have HOWN := Lib.hid hown'
    have HOL := Lib.hid (show own.length = k by rw [hown', List.length_map, List.length_take]; omega)
    clear hown'
    by_cases hgo : k < n0 ∧ k < 4096
    · obtain ⟨h1, h2⟩ := hgo
      have d1 : decide (k < n0) = true := decide_eq_true h1
      have d2 : decide ((k : Int) < 4096) = true := decide_eq_true (by omega)
      have hkl' : k < l0.length := by have := HN0.out; omega
      have hk0i : (k : Int) < (n0 : Int) := by omega
      obtain ⟨ad, hAd, had, hcell⟩ := (IsR.below HL.out hbw).at (m := 3) (fun _ => rfl) (by omega) hkl'
      subst hAd
      obtain ⟨x, hx⟩ : ∃ x, x = l0[k] := ⟨_, rfl⟩
      rw [← hx] at hcell
      obtain ⟨k0, k1, k2⟩ := cells3 hcell
      have HX1 := Lib.hid hx
      obtain ⟨xb, xn, xs⟩ := x
      dsimp only at k0 k1 k2
      clear hcell hx had
      have HNX : Hid (∀ y, y = nnorm ⟨xb, xn, xs⟩ → own ++ [y] = (l0.take (k + 1)).map nnorm) := Lib.hid (by rintro _ rfl; rw [List.take_succ_eq_append_getElem hkl', List.map_append, HOWN.out, ← HX1.out]; rfl)
      cases xb with
      | true =>
        go_wp2_with (at_builtin; refine wpList_pushG elemW rfl _ _ rfl w1.heap.size _ _ _ (kcells nul) (wr.alloc (.cells (kcells nul).toArray 42)) w1 (wr.heap.size + 1) (by simp) rfl rfl rfl rfl (kcells_one _) (ownW_alloc hown _) (hbw.alloc hz _) (by simp; omega) (by omega) (by omega) ?_)
        intro v7 w7 hown7 hb7 _ _
        have HREL := Lib.hid (show BackRel l0 w1 v7 (.int .i64 ((k + 1 : Nat) : Int)) w7 from ⟨k + 1, own ++ [nul], hkl', by omega, rfl, HNX.out _ rfl, by rw [flat_snoc]; exact hown7, hb7⟩)
        clear hown7 hb7 hown hbw
        go_wp2
        go_roundw
        case rel => exact HREL.out
        case measure => simp [intOf]; omega
      | false =>
        go_wp2_with (at_builtin; refine wpList_pushG elemW rfl _ _ rfl w1.heap.size _ _ _ (kcells ⟨false, xn, xs⟩) (wr.alloc (.cells (kcells ⟨false, xn, xs⟩).toArray 42)) w1 (wr.heap.size + 1) (by simp) rfl rfl rfl rfl (kcells_one _) (ownW_alloc hown _) (hbw.alloc hz _) (by simp; omega) (by omega) (by omega) ?_)
        intro v7 w7 hown7 hb7 _ _
        have HREL := Lib.hid (show BackRel l0 w1 v7 (.int .i64 ((k + 1 : Nat) : Int)) w7 from ⟨k + 1, own ++ [⟨false, xn, xs⟩], hkl', by omega, rfl, HNX.out _ rfl, by rw [flat_snoc]; exact hown7, hb7⟩)
        clear hown7 hb7 hown hbw
        go_wp2
        go_roundw
        case rel => exact HREL.out
        case measure => simp [intOf]; omega
    · have HD : Hid (∀ x ∈ own, x.null = true → x = nul) := Lib.hid (by rw [HOWN.out]; intro x hx; obtain ⟨y, _, rfl⟩ := List.mem_map.1 hx; exact nnorm_null y)
      have HO := Lib.hid (isR_own (m := 3) (fun _ => rfl) (by omega) hown)
      obtain ⟨Bo, on, co, rfl⟩ := IsR.shape HO.out
      have HON := Lib.hid (IsR.parts HO.out).1
      have hon : on = k := by have := HON.out; have := HOL.out; omega
      subst hon
      obtain ⟨-, -, hco, hcm, -⟩ := IsR.parts HO.out
      have hcoi : (co : Int) ≤ 9223372036854775807 := by unfold maxLen at hcm; omega
      obtain ⟨hpu1, hpu2⟩ := nput_ok (l := own) (by have := HON.out; omega)
      have hpe := nput_empty (l := own) (by have := HON.out; omega)
      have htp := ntake_put (l := own) (by have := HON.out; omega)
      have hjs := njoinE_yes (njoin_split HD.out)
      obtain ⟨st, so, x, hq⟩ : ∃ st so x, nputE own = (st, so, x) := ⟨_, _, _, rfl⟩
      have HP := Lib.hid (nput_any own (.slice Bo on co) wr HO.out (by have := HON.out; omega))
      rw [hq] at HP hpu1 hpu2 hpe htp
      dsimp only at hpu1 hpu2 hpe htp
      subst hpu2
      rw [HON.out] at htp
      have HSO := Lib.hid (show so.length ≤ on by rw [hpu1, ← HON.out]; exact nsome_len own)
      have HSE := Lib.hid (show st.length = 0 ↔ so.length = on by rw [hpu1, ← HON.out]; exact hpe)
      have HJS := Lib.hid (show njoinE (npresent own) so = (own, 0) by rw [hpu1]; exact hjs)
      have HTP := Lib.hid htp
      have HST := Lib.hid (show st.length ≤ 1000000 from nstream_len hq (by rw [HON.out]; exact hk5))
      have HB1 := Lib.hid (below_then HB.out hbw)
      clear hpu1 hpe htp hjs hq hown hbw hcm
      rcases (by omega : n0 ≤ on ∨ (on < n0 ∧ 4096 ≤ on)) with h1 | ⟨h1, h2⟩
      · have d1 : decide (on < n0) = false := decide_eq_false (by omega)
        go_wp2_with fail
        refine HP.out.mono ?_
        rintro e w31 ⟨stv, sov, rfl, hst, hso, hb31⟩
        obtain ⟨As, sn, sc, rfl⟩ := IsV.shape (f := bv) hst
        have hsn := (IsV.parts (f := bv) (show IsV bv st _ _ from hst)).1
        obtain ⟨Bs, tn, tc, rfl⟩ := hso.shape
        have htn : so.length = tn := hso.parts.1
        have hcase : (sn = 0 ∧ tn = on) ∨ (sn ≠ 0 ∧ tn ≠ on) := by have := HSE.out; omega
        have htl : tn ≤ on := by have := HSO.out; omega
        have HI31 := Lib.hid (IsR.below HO.out hb31)
        have HS31 := Lib.hid hst
        have HSO31 := Lib.hid hso
        have HB31 := Lib.hid (below_then HB1.out hb31)
        have HTN := Lib.hid htn
        clear hst hso hb31 hsn htn
        have HT := Lib.hid (ntake_any st _ (on : Int) w31 HS31.out HST.out)
        rw [HTP.out] at HT
        go_wp2_with fail
        refine HT.out.mono ?_
        rintro e w32 ⟨pv, rfl, hp, hb32⟩
        have HP32 := Lib.hid hp
        have HSO32 := Lib.hid (IsR.below HSO31.out hb32)
        have HI32 := Lib.hid (IsR.below HI31.out hb32)
        have HB32 := Lib.hid (below_then HB31.out hb32)
        clear hp hb32
        have HJ := Lib.hid (njoin_any (npresent own) so pv _ w32 HP32.out HSO32.out (by rw [npresent_len]; have := HON.out; omega) (by have := HTN.out; have := HSO.out; omega))
        rw [HJS.out] at HJ
        go_wp2_with fail
        refine HJ.out.mono ?_
        rintro e w33 ⟨bk, rfl, hbk, hb33⟩
        have HBK := Lib.hid hbk
        have HI33 := Lib.hid (IsR.below HI32.out hb33)
        have HB33 := Lib.hid (below_then HB32.out hb33)
        clear hbk hb33
        go_wp2_with fail
        refine (samerow12_any own bk _ _ HBK.out HI33.out (by have := HON.out; omega)).mono ?_
        rintro e w34 ⟨rfl, hb34⟩
        have HB34 := Lib.hid (below_then HB33.out hb34)
        clear hb34
        have g1 : decide (tn ≤ on) = true := decide_eq_true htl
        have g2 : decide ((tn : Int) ≤ (on : Int)) = true := decide_eq_true (by omega)
        rcases hcase with ⟨rfl, rfl⟩ | ⟨c1, c2⟩
        · go_wp2
          go_ret
          exact ⟨rfl, HB34.out⟩
        · have g3 : ((sn : Int) == 0) = false := by rw [beq_eq_false_iff_ne]; omega
          have g4 : ((tn : Int) == (on : Int)) = false := by rw [beq_eq_false_iff_ne]; omega
          clear c1 c2
          go_wp2
          go_ret
          exact ⟨rfl, HB34.out⟩
      · have d1 : decide (on < n0) = true := decide_eq_true h1
        have d2 : decide ((on : Int) < 4096) = false := decide_eq_false (by omega)
        go_wp2_with fail
        refine HP.out.mono ?_
        rintro e w31 ⟨stv, sov, rfl, hst, hso, hb31⟩
        obtain ⟨As, sn, sc, rfl⟩ := IsV.shape (f := bv) hst
        have hsn := (IsV.parts (f := bv) (show IsV bv st _ _ from hst)).1
        obtain ⟨Bs, tn, tc, rfl⟩ := hso.shape
        have htn : so.length = tn := hso.parts.1
        have hcase : (sn = 0 ∧ tn = on) ∨ (sn ≠ 0 ∧ tn ≠ on) := by have := HSE.out; omega
        have htl : tn ≤ on := by have := HSO.out; omega
        have HI31 := Lib.hid (IsR.below HO.out hb31)
        have HS31 := Lib.hid hst
        have HSO31 := Lib.hid hso
        have HB31 := Lib.hid (below_then HB1.out hb31)
        have HTN := Lib.hid htn
        clear hst hso hb31 hsn htn
        have HT := Lib.hid (ntake_any st _ (on : Int) w31 HS31.out HST.out)
        rw [HTP.out] at HT
        go_wp2_with fail
        refine HT.out.mono ?_
        rintro e w32 ⟨pv, rfl, hp, hb32⟩
        have HP32 := Lib.hid hp
        have HSO32 := Lib.hid (IsR.below HSO31.out hb32)
        have HI32 := Lib.hid (IsR.below HI31.out hb32)
        have HB32 := Lib.hid (below_then HB31.out hb32)
        clear hp hb32
        have HJ := Lib.hid (njoin_any (npresent own) so pv _ w32 HP32.out HSO32.out (by rw [npresent_len]; have := HON.out; omega) (by have := HTN.out; have := HSO.out; omega))
        rw [HJS.out] at HJ
        go_wp2_with fail
        refine HJ.out.mono ?_
        rintro e w33 ⟨bk, rfl, hbk, hb33⟩
        have HBK := Lib.hid hbk
        have HI33 := Lib.hid (IsR.below HI32.out hb33)
        have HB33 := Lib.hid (below_then HB32.out hb33)
        clear hbk hb33
        go_wp2_with fail
        refine (samerow12_any own bk _ _ HBK.out HI33.out (by have := HON.out; omega)).mono ?_
        rintro e w34 ⟨rfl, hb34⟩
        have HB34 := Lib.hid (below_then HB33.out hb34)
        clear hb34
        have g1 : decide (tn ≤ on) = true := decide_eq_true htl
        have g2 : decide ((tn : Int) ≤ (on : Int)) = true := decide_eq_true (by omega)
        rcases hcase with ⟨rfl, rfl⟩ | ⟨c1, c2⟩
        · go_wp2
          go_ret
          exact ⟨rfl, HB34.out⟩
        · have g3 : ((sn : Int) == 0) = false := by rw [beq_eq_false_iff_ne]; omega
          have g4 : ((tn : Int) == (on : Int)) = false := by rw [beq_eq_false_iff_ne]; omega
          clear c1 c2
          go_wp2
          go_ret
          exact ⟨rfl, HB34.out⟩

set_option maxRecDepth 100000 in
theorem NullsBack_lifted (os : Os) (started : os.Started) (H : Type) (enc : TypeId × Value → H) :
    ReturnsInHanded {} Try.checked os 6 .any (Rows.nullsBackSpec.pre6 enc Try.prog Try.f6 Rows.nullsBackRow.domain false) (Rows.nullsBackSpec.post enc Try.prog Try.f6 false true false false) := by
  refine returnsInHanded_of_change (C := Try.checked) own started (by kernel_rfl) Try.func6
    (ChangeSpec.witness6 (enc := enc) (C := Try.checked) false ⟨#[], #[.slice none 0 0], []⟩ 8 (by kernel_rfl) (by kernel_rfl) (by kernel_rfl) (by kernel_rfl)) ?_
  intro W base args ds gs before hval0 hW hcnd _
  have hval : ∀ (j : Nat) t v, Try.f6.params[j]? = some t → args[j]? = some v → Value.okWide Try.prog W .any base t v := hval0
  have hW' := hW
  obtain ⟨p, q, hT0, hV, rfl, hfz, hnd⟩ := hW
  have hA : DataW.TrodAll enc Try.prog W 0 (fun _ => true) true Try.f6.params.toList args.toList ds p := hT0
  rw [Try.params6] at hA hval
  obtain ⟨v0, vs0, d0, ds0, p0, q0, hargs, rfl, rfl, h0, r0⟩ := trodAll_cons hA
  obtain ⟨rfl, rfl, rfl⟩ := trodAll_nil r0
  obtain rfl : args = #[v0] := by cases args; simp_all
  obtain ⟨rfl, rfl⟩ := trodVars_none hV
  have hlt0 : ∀ x ∈ p0, x.block < W.heap.size := fun x hx => hW'.lt x (by simp [hx])
  obtain ⟨l0, hl0, hp0, hq0⟩ := open_vals (hval 0 22 v0 rfl rfl) h0 hlt0
  clear hT0 hval0
  refine (NullsBack_walk W v0 l0 hl0 hp0 hq0).mono fun e W' ⟨he, hb⟩ => ?_
  subst he
  exact ⟨_, rfl, law_post laidOut Try.underlying4 (by kernel_rfl) (by kernel_rfl) rfl hW' rfl hb⟩

theorem NullsBack_over : Rows.nullsBackRow.holds Try.pinned (OpenSpec.ofChange Rows.nullsBackSpec) :=
  OpenClaim.holds_of_wide 6 Try.f6 rfl rfl rfl rfl rfl rfl rfl ⟨rfl, rfl, rfl, rfl, rfl⟩ rfl rfl rfl rfl rfl (by kernel_rfl) Try.func6 (by kernel_rfl)
    (of_decide_eq_true (by kernel_rfl)) (by unfold Func.isWrapper; first | (rw [if_pos (by decide +kernel)]; kernel_rfl) | (rw [if_neg (by decide +kernel)]; exact ⟨rfl, rfl⟩))
    (fun os started H enc _ => NullsBack_lifted os started H enc)

theorem NullsBack_holds : Rows.NullsBackSaid := NullsBack_over
#print axioms NullsBack_holds

end Go.Proofs.Ytffglnccpbbclaa
