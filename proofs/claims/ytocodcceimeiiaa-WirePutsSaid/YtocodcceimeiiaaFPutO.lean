
/- wire's own contracts: Put. -/

import Derived.Test.YtocodcceimeiiaaFNum

namespace Go.Proofs.Ytocodcceimeiiaa

open Go.RowKit Go.ChangeShapes Go.WideShapes Go.ChangeAt

theorem u64_or2 {t H : Int} (h0 : 1 ≤ t) (h1 : t ≤ 100) (hH : H = 8 * t) : bits .or .u64 H 2 = 8 * t + 2 := by
  subst hH
  obtain ⟨n, rfl⟩ := Int.eq_ofNat_of_zero_le (show 0 ≤ t by omega)
  rw [u64_or _ _ (by omega) (by omega) (by omega) (by omega), show (8 * (n : Int)).toNat = 8 * n by omega, show ((2 : Int)).toNat = 2 from rfl, nat_join 3 (8 * n) 2 (by omega) (by omega)]
  omega
theorem u64_or0 {H : Int} (h0 : 0 ≤ H) (h1 : H < 18446744073709551616) : bits .or .u64 H 0 = H := by
  rw [u64_or _ _ (by omega) (by omega) (by omega) (by omega), show ((0 : Int)).toNat = 0 from rfl, Nat.or_zero]
  omega
theorem two_nums (a b : Nat) : fnums [a, b] = vput a ++ vput b := by simp [fnums]
/-- A block of another type stays where a row of the call's own grows. -/
theorem row_grownF {w w' : World} {g base s k : Nat} {t e : TypeId} {cs ys : List Value} {ov : Value} (h : Row w g t cs) (ho : w.ownsRow base e s ov k ys) (hne : t ≠ e) (hg : w.grownBy w' ov.ownBlock) : Row w' g t cs := by
  refine (hg.block g h.lt fun he => ?_).trans h
  rcases ho.2 with ⟨h1, _⟩ | ⟨g2, cap, cur, h1, _, hg2, _⟩
  · rw [h1] at he; cases he
  · rw [h1] at he
    injection he with he
    dsimp only at he
    have h2 : w.heap[g]? = some (.cells cs.toArray t (0, 0)) := h
    rw [he, hg2] at h2
    injection h2 with h2
    injection h2 with _ h3
    exact hne h3.symm
def FOPutRel (l : List FN) (w : World) (out i : Value) (wr : World) : Prop := ∃ k : Nat, k ≤ l.length ∧ i = .int .i64 (k : Int) ∧ (∀ f ∈ l.take k, ftag f.wf) ∧ wr.ownsRow w.heap.size 5 1 out (fbs (l.take k)).length ((fbs (l.take k)).map bv) ∧ Below w.heap.size w wr
set_option maxHeartbeats 4000000 in
set_option maxRecDepth 100000 in
theorem fput_own (l : List FN) (v : Value) (w : World) (h : IsFields l v w) (hl : l.length ≤ 200) :
    Calls Try.prog 8 #[v] w (RetEO w (fputP l)) := by
  obtain ⟨A, n, c, rfl⟩ := h.1.shape
  have HF := Lib.hid h
  have HN := Lib.hid h.1.parts.1
  have hn2 : (n : Int) ≤ 200 := by have := HN.out; omega
  have HST : Hid (FOPutRel l w (.slice none 0 0) (.int .i64 0) w) := Lib.hid ⟨0, Nat.zero_le _, rfl, by simp, World.ownsRow_nil _ _ _ _, Below.refl _ _⟩
  clear h
  go_enter Try.func8, Try.ntmps8
  go_wp2
  go_loopw [4, 10] (FOPutRel l w) (fun _ i _ => n - (intOf i).toNat)
  case atStart => exact HST.out
  case round =>
    obtain ⟨k, hk, rfl, htk, how, hbw⟩ := hrel
    clear HST
    by_cases hlt : k < n
    · have hlti : (k : Int) < (n : Int) := by omega
      have hkl : k < l.length := by have := HN.out; omega
      obtain ⟨ad, rfl, had, hcell⟩ := ((HF.out.below hbw).1).at (m := 4) (fun _ => rfl) (by omega) hkl
      have hat := HF.out.2 _ (List.getElem_mem hkl)
      have hsn := fbs_snoc hkl
      have hbl : (fbs (l.take k)).length ≤ 804000 := by
        have h1 := fbs_len (w := wr) (l := l.take k) fun f hf => ⟨(HF.out.below hbw).2 f (List.mem_of_mem_take hf), htk f hf⟩
        rw [List.length_take] at h1
        have h2 : min k l.length * 4020 ≤ 200 * 4020 := Nat.mul_le_mul_right _ (by omega)
        omega
      have hno : ¬ ftag l[k].wf → fputP l = ([], 1) := fputP_no hkl
      have hta : ftag l[k].wf → ∀ f ∈ l.take (k + 1), ftag f.wf := fun ht f hf => by
        rw [List.take_succ_eq_append_getElem hkl] at hf
        rcases List.mem_append.1 hf with hf | hf
        · exact htk f hf
        · rw [List.mem_singleton.1 hf]; exact ht
      obtain ⟨x, hx⟩ : ∃ x, x = l[k] := ⟨_, rfl⟩
      rw [← hx] at hcell hat hsn hno hta
      obtain ⟨c0, c1, c2, c3⟩ := cells4 hcell
      obtain ⟨tag, bytes, nn, bs, lv⟩ := x
      obtain ⟨bA, bc, e, h5A, _, _, h5L⟩ := hat.byt
      dsimp only at c0 c1 c2 c3 e h5A h5L
      subst e
      have HBA := Lib.hid h5A
      have HBS := Lib.hid h5L
      have hbs := hat.len
      have hbn := hat.n
      dsimp only at hbs hbn
      have HSN := Lib.hid hsn
      have HNO := Lib.hid hno
      have HTA := Lib.hid hta
      have HOW := Lib.hid how
      have HBW := Lib.hid hbw
      have HKL := Lib.hid hkl
      have HBL := Lib.hid hbl
      have htg := hat.tag
      clear hcell hat hsn hno hta how hbw hkl hbl hx had htk h5A h5L hk
      dsimp only at htg
      by_cases h1 : tag < 1
      · skip
        go_wp2
        go_ret2
        rw [HNO.out (fun ⟨a, b⟩ => by dsimp only [FN.wf] at a b; omega)]
        exact RetEO.nil _ (below_then HBW.out ((Below.refl _ _).alloc (Nat.le_refl _) _))
      · by_cases h2 : 100 < tag
        · skip
          go_wp2
          go_ret2
          rw [HNO.out (fun ⟨a, b⟩ => by dsimp only [FN.wf] at a b; omega)]
          exact RetEO.nil _ (below_then HBW.out ((Below.refl _ _).alloc (Nat.le_refl _) _))
        · have HFT := Lib.hid (HTA.out ⟨by dsimp only [FN.wf]; omega, by dsimp only [FN.wf]; omega⟩)
          obtain ⟨T, rfl⟩ := Int.eq_ofNat_of_zero_le (show 0 ≤ tag by omega)
          cases bytes with
          | true =>
            obtain ⟨W1, hW1⟩ : ∃ x, x = wr.alloc (.cells #[.int .i64 (T : Int), .bool true, .int .u64 (nn : Int), .slice bA bs.length bc] 41) := ⟨_, rfl⟩
            have hb0 : Below wr.heap.size wr W1 := by rw [hW1]; exact (Below.refl _ _).alloc (Nat.le_refl _) _
            have HR1 := Lib.hid (show Row W1 wr.heap.size 41 [.int .i64 (T : Int), .bool true, .int .u64 (nn : Int), .slice bA bs.length bc] by rw [hW1]; exact heap_alloc_new wr _)
            have hor := u64_or2 (t := (T : Int)) (H := (T : Int) * 8) (by omega) (by omega) (by omega)
            obtain ⟨K, hK⟩ : ∃ K : Nat, K = 8 * T + 2 := ⟨_, rfl⟩
            rw [show 8 * (T : Int) + 2 = (K : Int) by omega] at hor
            have HNM := Lib.hid (fun (W : World) => fnumbers_any [K, bs.length] (.slice (some ⟨W.heap.size, 0, none⟩) 2 2) (W.alloc (.cells #[.int .u64 (K : Int), .int .u64 (bs.length : Int)] 33)) (isV_new uv W 33 [K, bs.length] 2 rfl (by omega)) (by simp) (by intro x hx; simp at hx; omega))
            have HKT := Lib.hid hK
            have hK0 : 10 ≤ K := by omega
            have hK1 : K ≤ 802 := by omega
            have HO1 := Lib.hid (own_below HOW.out hb0)
            have HB1 := Lib.hid (below_then HBW.out hb0)
            have hbl := HBL.out
            have HV := Lib.hid (show (fnums [K, bs.length]).length ≤ 20 by
              rw [two_nums, List.length_append]
              have hv1 := vput_len_10 (x := K) (by omega)
              have hv2 := vput_len_10 (x := bs.length) (by omega)
              omega)
            have HSE := Lib.hid (show fbs (l.take (k + 1)) = fbs (l.take k) ++ fnums [K, bs.length] ++ bs by
              rw [HSN.out, fput1_byt rfl, two_nums]
              dsimp only [FN.wf]
              rw [show (8 * (T : Int) + 2).toNat = K by omega]
              simp only [List.append_assoc])
            clear hb0 hK
            subst hW1
            go_wp2_with fail
            clear c0 c1 c2 c3
            have hnm := HNM.out (wr.alloc (.cells #[.int .i64 (T : Int), .bool true, .int .u64 (nn : Int), .slice bA bs.length bc] 41))
            rw [show (wr.alloc (.cells #[.int .i64 (T : Int), .bool true, .int .u64 (nn : Int), .slice bA bs.length bc] 41)).heap.size = wr.heap.size + 1 by simp] at hnm
            refine hnm.mono ?_
            rintro e w2 ⟨v2, rfl, ho2, hb2⟩
            have hbX : Below wr.heap.size wr ((wr.alloc (.cells #[.int .i64 (T : Int), .bool true, .int .u64 (nn : Int), .slice bA bs.length bc] 41)).alloc (.cells #[.int .u64 (K : Int), .int .u64 (bs.length : Int)] 33)) := ((Below.refl _ _).alloc (Nat.le_refl _) _).alloc (by simp) _
            have hb2' := below_then hbX hb2
            have HB2 := Lib.hid (below_then HBW.out hb2')
            have HO2 := Lib.hid (own_below HOW.out hb2')
            have HR2 := Lib.hid (((HR1.out.alloc _).below hb2 (by simp; omega)) : Row w2 wr.heap.size 41 [.int .i64 (T : Int), .bool true, .int .u64 (nn : Int), .slice bA bs.length bc])
            obtain ⟨NB, hNB⟩ : ∃ NB, NB = fnums [K, bs.length] := ⟨_, rfl⟩
            rw [← hNB] at ho2 HSE HV
            obtain ⟨vA, vc, hve, hvA, hvc, hvm, hvl⟩ := isB_own ho2
            have hvn := HV.out
            have hz2 := HB2.out.size
            have hj1 : (fbs (l.take k)).length + NB.length ≤ 1000000000 := by omega
            clear ho2 hb2 hbX hb2' hNB
            subst hve
            have ho := HO2.out
            have hbw2 := HB2.out
            go_wp2_with (at_builtin; refine wpList_join elemB rfl _ _ rfl w.heap.size _ _ _ vA NB.length vc (NB.map bv) w rfl rfl hvA (by simp) hvl (bv_one NB) ho hbw2 hz2 hj1 (by omega) ?_)
            intro v3 w3 ho3 hb3 hg3 _
            have hr3 : Row w3 wr.heap.size 41 [.int .i64 (T : Int), .bool true, .int .u64 (nn : Int), .slice bA bs.length bc] := row_grownF HR2.out ho (by decide) hg3
            have e3 := hr3.cell 3
            have HR3 := Lib.hid hr3
            have hl3 := HBS.out.below hb3
            have hA3 := HBA.out
            have hz3 := hb3.size
            have hj2 : (fbs (l.take k)).length + NB.length + bs.length ≤ 1000000000 := by omega
            have ho3' : w3.ownsRow w.heap.size 5 1 v3 ((fbs (l.take k)).length + NB.length) ((fbs (l.take k)).map bv ++ NB.map bv) := ho3
            clear hr3 hg3 ho hbw2 hvl hvA hvc ho3 hj1
            go_wp2_with (at_builtin; refine wpList_join elemB rfl _ _ rfl w.heap.size _ _ _ bA bs.length bc (bs.map bv) w rfl rfl hA3 (by simp) hl3 (bv_one bs) ho3' hb3 hz3 hj2 (by omega) ?_)
            intro v4 w4 ho4 hb4 _ _
            have HREL := Lib.hid (show FOPutRel l w v4 (.int .i64 ((k + 1 : Nat) : Int)) w4 from ⟨k + 1, HKL.out, rfl, HFT.out, by
              rw [HSE.out, List.length_append, List.length_append, List.map_append, List.map_append, List.append_assoc]
              simpa only [List.append_assoc] using ho4, hb4⟩)
            clear ho4 hb4 hl3 hA3 ho3' hb3 e3
            go_wp2
            go_roundw
            case rel => exact HREL.out
            case measure => simp [intOf]; omega
          | false =>
            obtain ⟨W1, hW1⟩ : ∃ x, x = wr.alloc (.cells #[.int .i64 (T : Int), .bool false, .int .u64 (nn : Int), .slice bA bs.length bc] 41) := ⟨_, rfl⟩
            have hb0 : Below wr.heap.size wr W1 := by rw [hW1]; exact (Below.refl _ _).alloc (Nat.le_refl _) _
            have hor := u64_or0 (H := (T : Int) * 8) (by omega) (by omega)
            obtain ⟨K, hK⟩ : ∃ K : Nat, K = 8 * T := ⟨_, rfl⟩
            rw [show (T : Int) * 8 = (K : Int) by omega] at hor
            have HNM := Lib.hid (fun (W : World) => fnumbers_any [K, nn] (.slice (some ⟨W.heap.size, 0, none⟩) 2 2) (W.alloc (.cells #[.int .u64 (K : Int), .int .u64 (nn : Int)] 33)) (isV_new uv W 33 [K, nn] 2 rfl (by omega)) (by simp) (by intro x hx; simp at hx; omega))
            have HT8 := Lib.hid (show (T : Int) * 8 = (K : Int) by omega)
            have hK1 : K ≤ 802 := by omega
            have hbl := HBL.out
            have HV := Lib.hid (show (fnums [K, nn]).length ≤ 20 by
              rw [two_nums, List.length_append]
              have hv1 := vput_len_10 (x := K) (by omega)
              have hv2 := vput_len_10 (x := nn) (by omega)
              omega)
            have HSE := Lib.hid (show fbs (l.take (k + 1)) = fbs (l.take k) ++ fnums [K, nn] by
              rw [HSN.out, fput1_num rfl, two_nums]
              dsimp only [FN.wf]
              rw [show (8 * (T : Int)).toNat = K by omega])
            have hT8 := HT8.out
            clear hb0 hK
            subst hW1
            go_wp2_with fail
            clear c0 c1 c2 c3 hT8
            have hnm := HNM.out (wr.alloc (.cells #[.int .i64 (T : Int), .bool false, .int .u64 (nn : Int), .slice bA bs.length bc] 41))
            rw [show (wr.alloc (.cells #[.int .i64 (T : Int), .bool false, .int .u64 (nn : Int), .slice bA bs.length bc] 41)).heap.size = wr.heap.size + 1 by simp] at hnm
            refine hnm.mono ?_
            rintro e w2 ⟨v2, rfl, ho2, hb2⟩
            have hbX : Below wr.heap.size wr ((wr.alloc (.cells #[.int .i64 (T : Int), .bool false, .int .u64 (nn : Int), .slice bA bs.length bc] 41)).alloc (.cells #[.int .u64 (K : Int), .int .u64 (nn : Int)] 33)) := ((Below.refl _ _).alloc (Nat.le_refl _) _).alloc (by simp) _
            have hb2' := below_then hbX hb2
            have HB2 := Lib.hid (below_then HBW.out hb2')
            have HO2 := Lib.hid (own_below HOW.out hb2')
            obtain ⟨NB, hNB⟩ : ∃ NB, NB = fnums [K, nn] := ⟨_, rfl⟩
            rw [← hNB] at ho2 HSE HV
            obtain ⟨vA, vc, hve, hvA, hvc, hvm, hvl⟩ := isB_own ho2
            have hvn := HV.out
            have hz2 := HB2.out.size
            have hj1 : (fbs (l.take k)).length + NB.length ≤ 1000000000 := by omega
            clear ho2 hb2 hbX hb2' hNB hnm
            subst hve
            have ho := HO2.out
            have hbw2 := HB2.out
            go_wp2_with (at_builtin; refine wpList_join elemB rfl _ _ rfl w.heap.size _ _ _ vA NB.length vc (NB.map bv) w rfl rfl hvA (by simp) hvl (bv_one NB) ho hbw2 hz2 hj1 (by omega) ?_)
            intro v4 w4 ho4 hb4 _ _
            have HREL := Lib.hid (show FOPutRel l w v4 (.int .i64 ((k + 1 : Nat) : Int)) w4 from ⟨k + 1, HKL.out, rfl, HFT.out, by
              rw [HSE.out]
              simp only [List.map_append, List.length_append] at ho4 ⊢
              exact ho4, hb4⟩)
            clear ho4 hb4 ho hbw2 hvl hvA hvc hj1
            go_wp2
            go_roundw
            case rel => exact HREL.out
            case measure => simp [intOf]; omega
    · have hlti : ¬ (k : Int) < (n : Int) := by omega
      obtain rfl : k = l.length := by have := HN.out; omega
      rw [List.take_length] at htk how
      have HR := Lib.hid (show RetEO w (fputP l) (.returned (.tuple #[u4, .int .i64 0])) wr by rw [fputP_ok htk]; exact ⟨_, rfl, how, hbw⟩)
      clear htk how hbw
      go_wp2
      go_ret2
      exact HR.out
end Go.Proofs.Ytocodcceimeiiaa
