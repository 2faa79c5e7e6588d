
/- The statement RleBack: for any numbers and any bytes behind, whether signed, the law answers true. No condition. -/

import Derived.Test.YtnbiopihcbnkpaaGreatDoorG7
namespace Go.Proofs.YtnbiopihcbnkpaaGreatDoor

open Go.RowKit Go.ChangeShapes Go.WideShapes Go.ChangeAt

/-- The numbers that may be laid down, of the first 512. -/
def down (s : Bool) (x : Int) : Bool := s || decide (0 ≤ x)
theorem down_plain {own : List Int} {s : Bool} (h : ∀ x ∈ own, down s x = true) : ∃ u, dplain own s = some u := by
  induction own with
  | nil => exact ⟨[], rfl⟩
  | cons x own ih =>
    obtain ⟨u, hu⟩ := ih fun y hy => h y (List.mem_cons_of_mem _ hy)
    have hx := h x List.mem_cons_self
    obtain ⟨y, hy⟩ : ∃ y, eplain x s = some y := by
      unfold eplain
      cases s with
      | true => exact ⟨_, if_pos rfl⟩
      | false => exact ⟨x.toNat, by rw [if_neg (by simp), if_pos (by simpa [down] using hx)]⟩
    refine ⟨y :: u, ?_⟩
    unfold dplain at hu ⊢
    rw [omap, hy, hu]
theorem filter_take {l : List Int} {s : Bool} {k : Nat} (hk : k < l.length) : (l.take (k + 1)).filter (down s) = (l.take k).filter (down s) ++ (if down s l[k] then [l[k]] else []) := by
  rw [List.take_succ_eq_append_getElem hk, List.filter_append]
  congr 1
  simp only [List.filter_cons, List.filter_nil]
theorem uput_back {own : List Int} {s : Bool} (r : List UInt8) (hx : ∀ x ∈ own, inInt x) (hp : dplain own s ≠ none) (h4 : own.length ≤ 4096) : ∃ bs, uputE own s = (bs, 0) ∧ bs.length ≤ 10 * own.length ∧ utakeE (bs ++ r) (own.length : Int) s = (own, r, 0) := by
  obtain ⟨h1, h2, h3⟩ := uputN_back (s := s) (r := r) own.length own [] (own.length + 1) (Nat.le_refl _) (Nat.le_refl _) hx hp
  refine ⟨(uputN s own.length own).1, ?_, h2, ?_⟩
  · unfold uputE
    rw [if_neg (by omega)]
    exact Prod.ext rfl h1
  · unfold utakeE
    rw [if_neg (by omega), Int.toNat_natCast]
    simpa using h3
def OwnRel (l : List Int) (s : Bool) (w : World) (v i : Value) (wr : World) : Prop :=
  ∃ k : Nat, k ≤ l.length ∧ k ≤ 4096 ∧ i = .int .i64 (k : Int) ∧ wr.ownsRow w.heap.size 3 1 v ((l.take k).filter (down s)).length (((l.take k).filter (down s)).map iv) ∧ Below w.heap.size w wr
set_option maxHeartbeats 4000000 in
set_option maxRecDepth 100000 in
theorem RleBack_walk (w : World) (ht : WTab w) (v0 : Value) (l0 : List Int) (hI0 : IsV iv l0 v0 w) (hx0 : ∀ x ∈ l0, inInt x) (v1 : Value) (l1 : List UInt8) (hI1 : IsB l1 v1 w) (s : Bool) :
    Calls Tryz.prog 6 #[v0, v1, .bool s] w fun e w' => e = .returned (.bool true) ∧ Below w.heap.size w w' := by
  obtain ⟨A1, n10, c1, rfl⟩ := IsV.shape (f := bv) hI1
  obtain ⟨hn1, -, hc1, hm1, -⟩ := IsV.parts (f := bv) hI1
  obtain ⟨n1, hmin1⟩ : ∃ n, n = min n10 50 := ⟨_, rfl⟩
  have HI := Lib.hid (IsV.take (f := bv) hI1 (show n1 ≤ n10 by omega))
  have HIL := Lib.hid (show (l1.take n1).length = n1 by rw [List.length_take]; omega)
  have hci1 : (c1 : Int) ≤ 9223372036854775807 := by unfold maxLen at hm1; omega
  have hnb1 : n1 ≤ 50 := by omega
  have hnc1 : n1 ≤ c1 := by omega
  obtain ⟨l1c, hl1c⟩ : ∃ l, l = l1.take n1 := ⟨_, rfl⟩
  rw [← hl1c] at HI HIL
  clear hI1 hn1 hm1 hl1c
  have HIM := Lib.hid (show (l1c.map bv).length = n1 by rw [List.length_map]; exact HIL.out)
  have HT := Lib.hid ht
  have HL := Lib.hid hI0
  have HX := Lib.hid hx0
  clear ht hI0 hx0
  rcases (by omega : n10 ≤ 50 ∧ n1 = n10 ∨ 50 < n10 ∧ n1 = 50) with ⟨h6, rfl⟩ | ⟨h6, rfl⟩
  all_goals
    clear hmin1
    go_enter Tryz.func6, Tryz.ntmps6
    go_wp2_with fail
    refine (shown_any _ HT.out).mono ?_
    rintro e w1 ⟨rfl, hb1⟩
    have HT := Lib.hid (WTab.below HT.out hb1 (WTab.lt HT.out))
    have HI := Lib.hid (IsB.below HI.out hb1)
    have HL := Lib.hid (IsV.below HL.out hb1)
    have HB := Lib.hid hb1
    clear hb1
    have hst : OwnRel l0 s w1 (.slice (some ⟨w1.heap.size, 0, none⟩) 0 0) (.int .i64 0) (w1.alloc (.cells #[] 3)) := ⟨0, by omega, by omega, rfl, own_made w1 _, (Below.refl _ _).alloc (Nat.le_refl _) _⟩
    obtain ⟨A0, n0, c0, rfl⟩ := IsV.shape HL.out
    obtain ⟨hn0, -, hc0, hm0, -⟩ := IsV.parts HL.out
    have hc0i : (c0 : Int) ≤ 9223372036854775807 := by unfold maxLen at hm0; omega
    have HN0 := Lib.hid hn0
    clear hn0 hm0
    go_wp2
    go_loopw [8, 9] (OwnRel l0 s w1) (fun _ i _ => 4097 - (intOf i).toNat)
    case atStart => exact hst
    case round =>
      obtain ⟨k, hkl, hk5, rfl, hown, hbw⟩ := hrel
      clear hst
      have hkn : k ≤ n0 := by have := HN0.out; omega
      have hz := hbw.size
      obtain ⟨own, hown'⟩ : ∃ own, own = (l0.take k).filter (down s) := ⟨_, rfl⟩
      rw [← hown'] at hown
      have hol : own.length ≤ 4096 := by rw [hown']; exact Nat.le_trans (List.length_filter_le _ _) (by rw [List.length_take]; omega)
      have HOWN := Lib.hid hown'
      clear hown'
      obtain ⟨on, hon⟩ : ∃ on, on = own.length := ⟨_, rfl⟩
      rw [← hon] at hown hol
      have HON := Lib.hid hon
      clear hon
      by_cases hgo : k < n0 ∧ k < 4096
      · obtain ⟨h1, h2⟩ := hgo
        have d1 : decide (k < n0) = true := decide_eq_true h1
        have d2 : decide ((k : Int) < 4096) = true := decide_eq_true (by omega)
        have hkl' : k < l0.length := by have := HN0.out; omega
        have hk0i : (k : Int) < (n0 : Int) := by omega
        obtain ⟨ad, hAd, _, hcell⟩ := (IsV.below HL.out hbw).at hkl'
        subst hAd
        obtain ⟨x, hx⟩ : ∃ x, x = l0[k] := ⟨_, rfl⟩
        have hcx : wr.cell? (ad.add k) = some (.int .i64 x) := by rw [hcell, hx]; rfl
        have HX1 := Lib.hid hx
        clear hcell hx
        by_cases hd : down s x = true
        · have HNX : Hid ((l0.take (k + 1)).filter (down s) = own ++ [x]) := Lib.hid (by rw [filter_take hkl', ← HX1.out, if_pos hd, HOWN.out])
          rcases (show s = true ∨ (s = false ∧ 0 ≤ x) by
            cases s
            · exact .inr ⟨rfl, by simpa [down] using hd⟩
            · exact .inl rfl) with rfl | ⟨rfl, hx0'⟩
          · clear hd
            go_wp2_with (at_builtin; refine wpList_push elemI rfl _ _ rfl w1.heap.size _ _ _ (iv x) wr w1 rfl rfl rfl rfl hown hbw hz (by omega) (by omega) ?_)
            intro v5 w5 hown5 hb5 _ _
            have hrel : OwnRel l0 true w1 v5 (.int .i64 ((k + 1 : Nat) : Int)) w5 := ⟨k + 1, hkl', by omega, rfl, by rw [HNX.out, List.length_append, List.length_singleton, List.map_append, List.map_singleton, ← HON.out]; exact hown5, hb5⟩
            have HREL := Lib.hid hrel
            clear hown5 hown hrel hb5
            go_wp2
            go_roundw
            case rel => exact HREL.out
            case measure => simp [intOf]; omega
          · have d3 : decide (0 ≤ x) = true := decide_eq_true hx0'
            clear hd
            go_wp2_with (at_builtin; refine wpList_push elemI rfl _ _ rfl w1.heap.size _ _ _ (iv x) wr w1 rfl rfl rfl rfl hown hbw hz (by omega) (by omega) ?_)
            intro v5 w5 hown5 hb5 _ _
            have hrel : OwnRel l0 false w1 v5 (.int .i64 ((k + 1 : Nat) : Int)) w5 := ⟨k + 1, hkl', by omega, rfl, by rw [HNX.out, List.length_append, List.length_singleton, List.map_append, List.map_singleton, ← HON.out]; exact hown5, hb5⟩
            have HREL := Lib.hid hrel
            clear hown5 hown hrel hb5
            go_wp2
            go_roundw
            case rel => exact HREL.out
            case measure => simp [intOf]; omega
        · have HNX : Hid ((l0.take (k + 1)).filter (down s) = own) := Lib.hid (by rw [filter_take hkl', ← HX1.out, if_neg hd, HOWN.out, List.append_nil])
          obtain ⟨rfl, hx0'⟩ : s = false ∧ ¬ 0 ≤ x := by
            cases s
            · exact ⟨rfl, by simpa [down] using hd⟩
            · exact absurd rfl hd
          clear hd
          have hrel : OwnRel l0 false w1 _ (.int .i64 ((k + 1 : Nat) : Int)) wr := ⟨k + 1, hkl', by omega, rfl, by rw [HNX.out, ← HON.out]; exact hown, hbw⟩
          have HREL := Lib.hid hrel
          have d3 : decide (0 ≤ x) = false := decide_eq_false hx0'
          clear hrel
          go_wp2
          go_roundw
          case rel => exact HREL.out
          case measure => simp [intOf]; omega
      · have HD : Hid (∀ x ∈ own, down s x = true) := Lib.hid (by rw [HOWN.out]; exact fun x hx => (List.mem_filter.1 hx).2)
        have HXO : Hid (∀ x ∈ own, inInt x) := Lib.hid (by rw [HOWN.out]; exact fun x hx => HX.out x (List.mem_of_mem_take (List.mem_filter.1 hx).1))
        obtain ⟨Bo, co, rfl, _, hco, _, _, _⟩ := own_shape hown
        have hcoi : (co : Int) ≤ 9223372036854775807 := by unfold maxLen at hco; omega
        have HT := Lib.hid (WTab.below HT.out hbw (WTab.lt HT.out))
        have HI := Lib.hid (IsB.below HI.out hbw)
        have HL := Lib.hid (IsV.below HL.out hbw)
        have HB := Lib.hid (below_then HB.out hbw)
        have HO := Lib.hid (show IsV iv own (.slice Bo on co) wr from isV_own hown)
        clear hbw hown hz
        clear hco
        rcases (by omega : n0 ≤ k ∨ (k < n0 ∧ 4096 ≤ k)) with h1 | ⟨h1, h2⟩
        · have d1 : decide (k < n0) = false := decide_eq_false (by omega)
          obtain ⟨u, hu⟩ := down_plain HD.out
          have hp : dplain own s ≠ none := by rw [hu]; simp
          obtain ⟨bs, hE, hll, htk⟩ := uput_back (s := s) l1c HXO.out hp (by have := HON.out; omega)
          rw [← HON.out] at hll htk
          have HP := Lib.hid (uput_any own (.slice Bo on co) s wr HT.out HO.out HXO.out (by have := HON.out; omega))
          rw [hE] at HP
          have HTK := Lib.hid htk
          have HL1 : Hid (own.length ≤ 1000000) := Lib.hid (by have := HON.out; omega)
          clear hE hu hp htk u
          go_wp2_with fail
          refine HP.out.mono ?_
          rintro e w31 ⟨vb, rfl, hvb, hb31⟩
          have HT := Lib.hid (WTab.below HT.out hb31 (WTab.lt HT.out))
          have HI := Lib.hid (IsB.below HI.out hb31)
          have HL := Lib.hid (IsV.below HL.out hb31)
          have HO := Lib.hid (IsV.below HO.out hb31)
          have HB := Lib.hid (below_then HB.out hb31)
          obtain ⟨Ab, nb, cb, rfl⟩ := IsV.shape (f := bv) hvb
          obtain ⟨hnb, hAb, -, hcb, hlb⟩ := IsV.parts (f := bv) (show IsV bv bs _ _ from hvb)
          have hcbi : (cb : Int) ≤ 9223372036854775807 := by unfold maxLen at hcb; omega
          have HBM := Lib.hid (show (bs.map bv).length = nb by rw [List.length_map]; exact hnb)
          have hnb5 : nb ≤ 41000 := by omega
          have HNB := Lib.hid hnb
          have hown0 := own_made w31 5
          have hbA : Below w31.heap.size w31 (w31.alloc (.cells #[] 5)) := (Below.refl _ _).alloc (Nat.le_refl _) _
          have hlA := hlb.below hbA
          have hzz := hbA.size
          clear hvb hb31 hlb hnb hcb hll
          go_wp2_with (at_builtin; refine wpList_join elemB rfl _ _ rfl w31.heap.size _ _ _ _ _ _ (bs.map bv) w31 rfl rfl hAb HBM.out hlA (bv_one bs) hown0 hbA hzz (by omega) (by omega) ?_)
          intro v5 w5 hown5 hb5 _ _
          have hz5 := hb5.size
          obtain ⟨-, hAi, -, -, hli⟩ := IsV.parts (f := bv) (IsB.below HI.out hb5)
          clear hown0 hbA hlA hzz
          go_wp2_with (at_builtin; refine wpList_join elemB rfl _ _ rfl w31.heap.size _ _ _ _ _ _ (l1c.map bv) w31 rfl rfl hAi HIM.out hli (bv_one l1c) hown5 hb5 hz5 (by omega) (by omega) ?_)
          intro v6 w6 hown6 hb6 _ _
          have HC := Lib.hid (show IsB (bs ++ l1c) v6 w6 from isB_own (l := bs ++ l1c) (by rw [List.map_append]; simpa using hown6))
          have HT := Lib.hid (WTab.below HT.out hb6 (WTab.lt HT.out))
          have HI := Lib.hid (IsB.below HI.out hb6)
          have HL := Lib.hid (IsV.below HL.out hb6)
          have HO := Lib.hid (IsV.below HO.out hb6)
          have HB := Lib.hid (below_then HB.out hb6)
          clear hown5 hown6 hb5 hb6 hz5 hli hAi hAb
          have HTA := Lib.hid (utake_any (bs ++ l1c) v6 (on : Int) s w6 HT.out HC.out (by rw [List.length_append]; have := HNB.out; have := HIL.out; omega) ⟨by omega, by omega⟩)
          rw [HTK.out] at HTA
          go_wp2_with fail
          refine (HTA.out).mono ?_
          rintro e w31 ⟨m, r, rfl, hm, hr, hb31⟩
          have HT := Lib.hid (WTab.below HT.out hb31 (WTab.lt HT.out))
          have HI := Lib.hid (IsB.below HI.out hb31)
          have HL := Lib.hid (IsV.below HL.out hb31)
          have HO := Lib.hid (IsV.below HO.out hb31)
          have HC := Lib.hid (IsB.below HC.out hb31)
          have HB := Lib.hid (below_then HB.out hb31)
          have HM := Lib.hid hm
          have HR := Lib.hid hr
          clear hm hr hb31
          go_wp2_with fail
          refine (same8_is HM.out HO.out HL1.out HL1.out).mono ?_
          rintro e w32 ⟨rfl, hb32⟩
          have HT := Lib.hid (WTab.below HT.out hb32 (WTab.lt HT.out))
          have HI := Lib.hid (IsB.below HI.out hb32)
          have HL := Lib.hid (IsV.below HL.out hb32)
          have HO := Lib.hid (IsV.below HO.out hb32)
          have HC := Lib.hid (IsB.below HC.out hb32)
          have HM := Lib.hid (IsV.below HM.out hb32)
          have HR := Lib.hid (IsB.below HR.out hb32)
          have HB := Lib.hid (below_then HB.out hb32)
          clear hb32
          have hz : (own == own) = true := by simp
          have hz2 : (l1c == l1c) = true := by simp
          have hc1 := textB HR.out
          have hc2 := textB HI.out
          go_wp2
          go_ret
          exact ⟨rfl, HB.out⟩
        · have d1 : decide (k < n0) = true := decide_eq_true h1
          have d2 : decide ((k : Int) < 4096) = false := decide_eq_false (by omega)
          obtain ⟨u, hu⟩ := down_plain HD.out
          have hp : dplain own s ≠ none := by rw [hu]; simp
          obtain ⟨bs, hE, hll, htk⟩ := uput_back (s := s) l1c HXO.out hp (by have := HON.out; omega)
          rw [← HON.out] at hll htk
          have HP := Lib.hid (uput_any own (.slice Bo on co) s wr HT.out HO.out HXO.out (by have := HON.out; omega))
          rw [hE] at HP
          have HTK := Lib.hid htk
          have HL1 : Hid (own.length ≤ 1000000) := Lib.hid (by have := HON.out; omega)
          clear hE hu hp htk u
          go_wp2_with fail
          refine HP.out.mono ?_
          rintro e w31 ⟨vb, rfl, hvb, hb31⟩
          have HT := Lib.hid (WTab.below HT.out hb31 (WTab.lt HT.out))
          have HI := Lib.hid (IsB.below HI.out hb31)
          have HL := Lib.hid (IsV.below HL.out hb31)
          have HO := Lib.hid (IsV.below HO.out hb31)
          have HB := Lib.hid (below_then HB.out hb31)
          obtain ⟨Ab, nb, cb, rfl⟩ := IsV.shape (f := bv) hvb
          obtain ⟨hnb, hAb, -, hcb, hlb⟩ := IsV.parts (f := bv) (show IsV bv bs _ _ from hvb)
          have hcbi : (cb : Int) ≤ 9223372036854775807 := by unfold maxLen at hcb; omega
          have HBM := Lib.hid (show (bs.map bv).length = nb by rw [List.length_map]; exact hnb)
          have hnb5 : nb ≤ 41000 := by omega
          have HNB := Lib.hid hnb
          have hown0 := own_made w31 5
          have hbA : Below w31.heap.size w31 (w31.alloc (.cells #[] 5)) := (Below.refl _ _).alloc (Nat.le_refl _) _
          have hlA := hlb.below hbA
          have hzz := hbA.size
          clear hvb hb31 hlb hnb hcb hll
          go_wp2_with (at_builtin; refine wpList_join elemB rfl _ _ rfl w31.heap.size _ _ _ _ _ _ (bs.map bv) w31 rfl rfl hAb HBM.out hlA (bv_one bs) hown0 hbA hzz (by omega) (by omega) ?_)
          intro v5 w5 hown5 hb5 _ _
          have hz5 := hb5.size
          obtain ⟨-, hAi, -, -, hli⟩ := IsV.parts (f := bv) (IsB.below HI.out hb5)
          clear hown0 hbA hlA hzz
          go_wp2_with (at_builtin; refine wpList_join elemB rfl _ _ rfl w31.heap.size _ _ _ _ _ _ (l1c.map bv) w31 rfl rfl hAi HIM.out hli (bv_one l1c) hown5 hb5 hz5 (by omega) (by omega) ?_)
          intro v6 w6 hown6 hb6 _ _
          have HC := Lib.hid (show IsB (bs ++ l1c) v6 w6 from isB_own (l := bs ++ l1c) (by rw [List.map_append]; simpa using hown6))
          have HT := Lib.hid (WTab.below HT.out hb6 (WTab.lt HT.out))
          have HI := Lib.hid (IsB.below HI.out hb6)
          have HL := Lib.hid (IsV.below HL.out hb6)
          have HO := Lib.hid (IsV.below HO.out hb6)
          have HB := Lib.hid (below_then HB.out hb6)
          clear hown5 hown6 hb5 hb6 hz5 hli hAi hAb
          have HTA := Lib.hid (utake_any (bs ++ l1c) v6 (on : Int) s w6 HT.out HC.out (by rw [List.length_append]; have := HNB.out; have := HIL.out; omega) ⟨by omega, by omega⟩)
          rw [HTK.out] at HTA
          go_wp2_with fail
          refine (HTA.out).mono ?_
          rintro e w31 ⟨m, r, rfl, hm, hr, hb31⟩
          have HT := Lib.hid (WTab.below HT.out hb31 (WTab.lt HT.out))
          have HI := Lib.hid (IsB.below HI.out hb31)
          have HL := Lib.hid (IsV.below HL.out hb31)
          have HO := Lib.hid (IsV.below HO.out hb31)
          have HC := Lib.hid (IsB.below HC.out hb31)
          have HB := Lib.hid (below_then HB.out hb31)
          have HM := Lib.hid hm
          have HR := Lib.hid hr
          clear hm hr hb31
          go_wp2_with fail
          refine (same8_is HM.out HO.out HL1.out HL1.out).mono ?_
          rintro e w32 ⟨rfl, hb32⟩
          have HT := Lib.hid (WTab.below HT.out hb32 (WTab.lt HT.out))
          have HI := Lib.hid (IsB.below HI.out hb32)
          have HL := Lib.hid (IsV.below HL.out hb32)
          have HO := Lib.hid (IsV.below HO.out hb32)
          have HC := Lib.hid (IsB.below HC.out hb32)
          have HM := Lib.hid (IsV.below HM.out hb32)
          have HR := Lib.hid (IsB.below HR.out hb32)
          have HB := Lib.hid (below_then HB.out hb32)
          clear hb32
          have hz : (own == own) = true := by simp
          have hz2 : (l1c == l1c) = true := by simp
          have hc1 := textB HR.out
          have hc2 := textB HI.out
          go_wp2
          go_ret
          exact ⟨rfl, HB.out⟩

set_option maxRecDepth 100000 in
theorem RleBack_lifted (os : Os) (started : os.Started) (H : Type) (enc : TypeId × Value → H) :
    ReturnsInHanded {} Tryz.checked os 6 .any (fun w args => (Rows.rleBackSpec.pre enc Tryz.prog Tryz.f6 [] false w args ∧ laidMetH Tryz.prog [("pilaster/widths.table", Rows.laid_pilaster_widths_table)] w) ∧ sizedMet enc Tryz.prog Tryz.f6 (OpenSpec.ofChange Rows.rleBackSpec) false w args) (Rows.rleBackSpec.post enc Tryz.prog Tryz.f6 false true false false) := by
  refine returnsInHanded_of_change_and (C := Tryz.checked) (X := fun w _ => laidMetH Tryz.prog [("pilaster/widths.table", Rows.laid_pilaster_widths_table)] w) (fun _ _ _ hh h => h.of_heap hh) own started (by kernel_rfl) Tryz.func6
    (ChangeSpec.witness_shaped (enc := enc) (C := Tryz.checked) (os := os) (X := fun w _ => laidMetH Tryz.prog [("pilaster/widths.table", Rows.laid_pilaster_widths_table)] w) false (World.doorLaid Tryz.prog 400 os) #[.slice none 0 0, .slice none 0 0, .bool false] 8 rfl (World.shaped_of_RefB (by kernel_rfl) (by kernel_rfl)) (by kernel_rfl) (by kernel_rfl) (by kernel_rfl) (door_met os _)) ?_
  intro W base args ds gs before hval0 hW _ _ hL _
  have hT := tab_of hL
  clear hL
  have hval : ∀ (j : Nat) t v, Tryz.f6.params[j]? = some t → args[j]? = some v → Value.okWide Tryz.prog W .any base t v := hval0
  have hW' := hW
  obtain ⟨p, q, hT0, hV, rfl, hfz, hnd⟩ := hW
  have hA : DataW.TrodAll enc Tryz.prog W 0 (fun _ => true) true Tryz.f6.params.toList args.toList ds p := hT0
  rw [Tryz.params6] at hA hval
  obtain ⟨v0, vs0, d0, ds0, p0, q0, hargs, rfl, rfl, h0, r0⟩ := trodAll_cons hA
  obtain ⟨v1, vs1, d1, ds1, p1, q1, rfl, rfl, rfl, h1, r1⟩ := trodAll_cons r0
  obtain ⟨v2, vs2, d2, ds2, p2, q2, rfl, rfl, rfl, h2, r2⟩ := trodAll_cons r1
  obtain ⟨rfl, rfl, rfl⟩ := trodAll_nil r2
  obtain rfl : args = #[v0, v1, v2] := by cases args; simp_all
  obtain ⟨rfl, rfl⟩ := trodVars_none hV
  have hlt0 : ∀ x ∈ p0, x.block < W.heap.size := fun x hx => hW'.lt x (by simp [hx])
  obtain ⟨l0, hl0, hx0⟩ := open_intsv Tryz.underlying22 Tryz.underlying3 (by kernel_rfl) (hval 0 22 v0 rfl rfl) h0 hlt0
  have hlt1 : ∀ x ∈ p1, x.block < W.heap.size := fun x hx => hW'.lt x (by simp [hx])
  obtain ⟨l1, hl1⟩ := open_bytesv Tryz.underlying25 Tryz.underlying5 (by kernel_rfl) (hval 1 25 v1 rfl rfl) h1 hlt1
  obtain ⟨a2, rfl, rfl, rfl⟩ := open_bool Tryz.underlying4 (hval 2 4 v2 rfl rfl) h2
  clear hT0 hval0
  refine (RleBack_walk W hT v0 l0 hl0 hx0 v1 l1 hl1 a2).mono fun e W' ⟨he, hb⟩ => ?_
  subst he
  exact ⟨_, rfl, law_post laidOut Tryz.underlying4 (by kernel_rfl) (by kernel_rfl) rfl hW' rfl hb⟩

theorem RleBack_over : Rows.rleBackRow.holds Tryz.pinned (OpenSpec.ofChange Rows.rleBackSpec) :=
  OpenClaim.holds_of_wide 6 Tryz.f6 rfl rfl rfl rfl rfl rfl rfl ⟨rfl, rfl, rfl, rfl, rfl⟩ rfl rfl rfl rfl rfl (by kernel_rfl) Tryz.func6 (by kernel_rfl)
    (of_decide_eq_true (by kernel_rfl)) (by unfold Func.isWrapper; first | (rw [if_pos (by decide +kernel)]; kernel_rfl) | (rw [if_neg (by decide +kernel)]; exact ⟨rfl, rfl⟩))
    (fun os started H enc _ => RleBack_lifted os started H enc)

theorem RleBack_holds : Rows.RleBackCardSaid :=
  Claim7.holds_tied_plain_at .later [] _ true _ _ RleBack_over (fun _ h => by cases h) (by kernel_rfl) (fun _ h => by cases h) rleBack_row_tie rfl ⟨rfl, rfl⟩ (by kernel_rfl) rfl
    (fun f fn hf hfn => by
      obtain rfl : f = 6 := Option.some.inj ((show Tryz.prog.funcNamed "pilaster/pilasterlaw11.RleBack" = some 6 by kernel_rfl).symm.trans hf) |>.symm
      obtain rfl : fn = Tryz.f6 := (Option.some.inj (Tryz.func6.symm.trans hfn)).symm
      exact ⟨by kernel_rfl, fun j t ht => stand_ins (by kernel_rfl) ht⟩)
    (by kernel_rfl)
#print axioms RleBack_holds

end Go.Proofs.YtnbiopihcbnkpaaGreatDoor
