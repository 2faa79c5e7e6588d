
/- The statement BoolrleCounts: for any two rows of truths the law answers true. No condition. -/

import Derived.Test.YtgfbmjbnmikpjaaQShown

import Derived.Test.YtgfbmjbnmikpjaaLaw

namespace Go.Proofs.Ytgfbmjbnmikpjaa

open Go.RowKit Go.ChangeShapes Go.WideShapes Go.ChangeAt

def nots (l : List Bool) : List Bool := l.map (!·)
theorem nots_succ (l : List Bool) {k : Nat} (h : k < l.length) : (nots (l.take (k + 1))).map Value.bool = (nots (l.take k)).map Value.bool ++ [.bool (!l[k])] := by
  rw [List.take_succ_eq_append_getElem h, nots, nots, List.map_append, List.map_append]; rfl
theorem nots_len (l : List Bool) : (nots l).length = l.length := by simp [nots]
def TurnRel (l : List Bool) (w : World) (v i : Value) (wr : World) : Prop :=
  ∃ k : Nat, k ≤ l.length ∧ i = .int .i64 (k : Int) ∧ wr.ownsRow w.heap.size 4 1 v k ((nots (l.take k)).map Value.bool) ∧ Below w.heap.size w wr ∧ w.heap.size ≤ wr.heap.size
set_option maxHeartbeats 4000000 in
set_option maxRecDepth 100000 in
theorem BoolrleCounts_walk (w : World) (v0 : Value) (l0 : List Bool) (hI0 : IsV Value.bool l0 v0 w) (v1 : Value) (l1 : List Bool) (hI1 : IsV Value.bool l1 v1 w) :
    Calls Try.prog 6 #[v0, v1] w fun e w' => e = .returned (.bool true) ∧ Below w.heap.size w w' := by
  have HI0 := Lib.hid hI0
  have HI1 := Lib.hid hI1
  clear hI0 hI1
  go_enter Try.func6, Try.ntmps6
  go_wp2_with fail
  refine (shown_any _).mono ?_
  rintro e w1 ⟨rfl, hb1⟩
  have HB1 := Lib.hid hb1
  have HJ0 := Lib.hid (HI0.out.below hb1)
  have HJ1 := Lib.hid (HI1.out.below hb1)
  clear hb1
  go_wp2_with fail
  refine (fewL_is HJ0.out).mono ?_
  rintro e w' ⟨⟨u, rfl, hu⟩, rfl⟩
  obtain ⟨a, hl⟩ : ∃ a, a = l0.take 4200 := ⟨_, rfl⟩
  rw [← hl] at hu
  have HLA : Hid (a.length ≤ 4200) := Lib.hid (by rw [hl, List.length_take]; omega)
  have HU1 := Lib.hid hu
  clear hu hl
  go_wp2_with fail
  refine (fewL_is HJ1.out).mono ?_
  rintro e w' ⟨⟨ub, rfl, hu⟩, rfl⟩
  obtain ⟨b, hl⟩ : ∃ b, b = l1.take 4200 := ⟨_, rfl⟩
  rw [← hl] at hu
  have HLB : Hid (b.length ≤ 4200) := Lib.hid (by rw [hl, List.length_take]; omega)
  have HUB1 := Lib.hid hu
  clear hu hl
  obtain ⟨A, n, c, rfl⟩ := HU1.out.shape
  obtain ⟨hn, hA, hnc, hcm, hla⟩ := HU1.out.parts
  have hci : (c : Int) ≤ 9223372036854775807 := by unfold maxLen at hcm; omega
  obtain ⟨A2, n2, c2, rfl⟩ := HUB1.out.shape
  obtain ⟨hn2, hA2, hnc2, hcm2, hlb⟩ := HUB1.out.parts
  have hn4 : n ≤ 4200 := by have := HLA.out; omega
  have hn24 : n2 ≤ 4200 := by have := HLB.out; omega
  have HN := Lib.hid hn
  have HN2 := Lib.hid hn2
  have HMa := Lib.hid (show (a.map Value.bool).length = n by rw [List.length_map]; exact hn)
  have HMb := Lib.hid (show (b.map Value.bool).length = n2 by rw [List.length_map]; exact hn2)
  have HLa := Lib.hid hla
  have HLb := Lib.hid hlb
  have hown0 : (w1.alloc (.cells #[] 4)).ownsRow w1.heap.size 4 1 (.slice (some ⟨w1.heap.size, 0, none⟩) 0 0) 0 [] := World.ownsRow_made w1 #[] 0 (Nat.le_refl _) (by unfold maxLen; omega) (by simp)
  have hst : TurnRel a w1 (.slice (some ⟨w1.heap.size, 0, none⟩) 0 0) (.int .i64 0) (w1.alloc (.cells #[] 4)) := ⟨0, by omega, rfl, by simpa [nots] using hown0, (Below.refl _ _).alloc (Nat.le_refl _) _, by simp⟩
  clear hn hn2 hcm hcm2 hla hlb hown0
  go_wp2
  go_loopw [6, 7] (TurnRel a w1) (fun _ i _ => n - (intOf i).toNat)
  case atStart => exact hst
  case round =>
    obtain ⟨k, hk, rfl, hown, hbk, hzk⟩ := hrel
    clear hst
    have hk' : k ≤ n := by have := HN.out; omega
    by_cases hlt : k < n
    · have hka : k < a.length := by have := HN.out; omega
      obtain ⟨ad, e1, _, hcell⟩ := (HU1.out.below hbk).at hka
      subst e1
      have HS := Lib.hid (nots_succ a hka)
      obtain ⟨x, hx⟩ : ∃ x, x = a[k] := ⟨_, rfl⟩
      rw [← hx] at hcell HS
      clear hx
      go_wp2_with (at_builtin; refine wpList_push elemL rfl _ _ rfl w1.heap.size _ _ _ (.bool (!x)) wr w1 rfl rfl rfl rfl hown hbk hzk (by omega) (by omega) ?_)
      intro v5 w5 hown5 hb5 _ _
      rw [← HS.out] at hown5
      clear hown
      go_wp2
      go_roundw
      case rel => exact ⟨k + 1, by omega, by go_num, hown5, hb5, hb5.size⟩
      case measure => simp [intOf]; omega
    · obtain rfl : k = n := by omega
      have HT := Lib.hid (show IsV Value.bool (nots a) _ wr by
        rw [List.take_of_length_le (by have := HN.out; omega)] at hown
        exact isV_own hown)
      have hownN : (wr.alloc (.cells #[] 4)).ownsRow wr.heap.size 4 1 (.slice (some ⟨wr.heap.size, 0, none⟩) 0 0) 0 [] := World.ownsRow_made wr #[] 0 (Nat.le_refl _) (by unfold maxLen; omega) (by simp)
      have hbN : Below wr.heap.size wr (wr.alloc (.cells #[] 4)) := (Below.refl _ _).alloc (Nat.le_refl _) _
      have hzN := hbN.size
      have hlN := (HLa.out.below hbk).below hbN
      have HBk := Lib.hid (below_then HB1.out hbk)
      have HUk := Lib.hid (HU1.out.below hbk)
      have HUBk := Lib.hid (HUB1.out.below hbk)
      have HLbk := Lib.hid (HLb.out.below hbk)
      clear hown hbk hzk
      go_wp2_with (at_builtin; refine wpList_join elemL rfl (.tmp 29) (.tmp 30) rfl wr.heap.size _ _ _ _ _ _ (a.map Value.bool) wr rfl rfl hA HMa.out hlN (blv_one _) hownN hbN hzN (by omega) (by omega) ?_)
      intro v4 w4 hown4 hb4 _ _
      have hown4' : w4.ownsRow wr.heap.size 4 1 v4 k (a.map Value.bool) := by simpa using hown4
      have hlB := HLbk.out.below hb4
      have hz4 := hb4.size
      clear hown4 hownN hbN hzN hlN
      go_wp2_with (at_builtin; refine wpList_join elemL rfl (.tmp 31) (.tmp 32) rfl wr.heap.size _ _ _ _ _ _ (b.map Value.bool) wr rfl rfl hA2 HMb.out hlB (blv_one _) hown4' hb4 hz4 (by omega) (by omega) ?_)
      intro v5 w5 hown5 hb5 _ _
      have HAll := Lib.hid (show IsV Value.bool (a ++ b) v5 w5 from isV_own (by rw [List.map_append]; exact hown5))
      have HT5 := Lib.hid (HT.out.below hb5)
      have HU5 := Lib.hid (HUk.out.below hb5)
      have HUB5 := Lib.hid (HUBk.out.below hb5)
      have HB5 := Lib.hid (below_then HBk.out hb5)
      obtain ⟨ca, hca⟩ : ∃ x, x = qcount a := ⟨_, rfl⟩
      obtain ⟨cb, hcb⟩ : ∃ x, x = qcount b := ⟨_, rfl⟩
      have hca4 : ca ≤ 4200 := by have := qcount_le a; have := HLA.out; omega
      have hcb4 : cb ≤ 4200 := by have := qcount_le b; have := HLB.out; omega
      have HC1 := Lib.hid (show qcount (a ++ b) = ca + cb by rw [qcount_append, hca, hcb])
      have HC2 := Lib.hid (show (qcount (nots a) : Int) = (k : Int) - (ca : Int) by have h1 : qcount (nots a) + qcount a = a.length := qcount_not a; have := HN.out; omega)
      have HCA := Lib.hid hca
      have HCB := Lib.hid hcb
      clear hown5 hown4' hlB hz4 hb5 hb4 hca hcb
      go_wp2_with fail
      refine (qcount_any _ _ _ HAll.out (by rw [List.length_append]; have := HLA.out; have := HLB.out; omega)).mono ?_
      rintro e w6 ⟨rfl, hb6⟩
      have HT6 := Lib.hid (HT5.out.below hb6)
      have HU6 := Lib.hid (HU5.out.below hb6)
      have HUB6 := Lib.hid (HUB5.out.below hb6)
      have HB6 := Lib.hid (below_then HB5.out hb6)
      clear hb6
      rw [HC1.out]
      go_wp2_with fail
      refine (qcount_any _ _ _ HU6.out (by have := HLA.out; omega)).mono ?_
      rintro e w7 ⟨rfl, hb7⟩
      have HT7 := Lib.hid (HT6.out.below hb7)
      have HU7 := Lib.hid (HU6.out.below hb7)
      have HUB7 := Lib.hid (HUB6.out.below hb7)
      have HB7 := Lib.hid (below_then HB6.out hb7)
      clear hb7
      rw [← HCA.out]
      go_wp2_with fail
      refine (qcount_any _ _ _ HUB7.out (by have := HLB.out; omega)).mono ?_
      rintro e w8 ⟨rfl, hb8⟩
      have HT8 := Lib.hid (HT7.out.below hb8)
      have HU8 := Lib.hid (HU7.out.below hb8)
      have HB8 := Lib.hid (below_then HB7.out hb8)
      clear hb8
      rw [← HCB.out]
      have hz1 : (((ca + cb : Nat) : Int) == (ca : Int) + (cb : Int)) = true := by simp
      go_wp2_with fail
      refine (qcount_any _ _ _ HT8.out (by rw [nots_len]; have := HLA.out; omega)).mono ?_
      rintro e w9 ⟨rfl, hb9⟩
      have HU9 := Lib.hid (HU8.out.below hb9)
      have HB9 := Lib.hid (below_then HB8.out hb9)
      clear hb9
      rw [HC2.out]
      go_wp2_with fail
      refine (qcount_any _ _ _ HU9.out (by have := HLA.out; omega)).mono ?_
      rintro e wa ⟨rfl, hba⟩
      have HBa := Lib.hid (below_then HB9.out hba)
      clear hba
      rw [← HCA.out]
      go_wp2
      go_ret
      exact ⟨rfl, HBa.out⟩

set_option maxRecDepth 100000 in
theorem BoolrleCounts_lifted (os : Os) (started : os.Started) (H : Type) (enc : TypeId × Value → H) :
    ReturnsInHanded {} Try.checked os 6 .any (Rows.boolrleCountsSpec.pre6 enc Try.prog Try.f6 Rows.boolrleCountsRow.domain false) (Rows.boolrleCountsSpec.post enc Try.prog Try.f6 false true false false) := by
  refine returnsInHanded_of_change (C := Try.checked) own started (by kernel_rfl) Try.func6
    (ChangeSpec.witness6 (enc := enc) (C := Try.checked) false ⟨#[], #[.slice none 0 0, .slice none 0 0], []⟩ 8 (by kernel_rfl) (by kernel_rfl) (by kernel_rfl) (by kernel_rfl)) ?_
  intro W base args ds gs before hval0 hW hcnd _
  have hval : ∀ (j : Nat) t v, Try.f6.params[j]? = some t → args[j]? = some v → Value.okWide Try.prog W .any base t v := hval0
  have hW' := hW
  obtain ⟨p, q, hT0, hV, rfl, hfz, hnd⟩ := hW
  have hA : DataW.TrodAll enc Try.prog W 0 (fun _ => true) true Try.f6.params.toList args.toList ds p := hT0
  rw [Try.params6] at hA hval
  obtain ⟨v0, vs0, d0, ds0, p0, q0, hargs, rfl, rfl, h0, r0⟩ := trodAll_cons hA
  obtain ⟨v1, vs1, d1, ds1, p1, q1, rfl, rfl, rfl, h1, r1⟩ := trodAll_cons r0
  obtain ⟨rfl, rfl, rfl⟩ := trodAll_nil r1
  obtain rfl : args = #[v0, v1] := by cases args; simp_all
  obtain ⟨rfl, rfl⟩ := trodVars_none hV
  have hlt0 : ∀ x ∈ p0, x.block < W.heap.size := fun x hx => hW'.lt x (by simp [hx])
  obtain ⟨l0, hl0⟩ := open_truths Try.underlying22 Try.underlying4 (by kernel_rfl) (hval 0 22 v0 rfl rfl) h0 hlt0
  have hlt1 : ∀ x ∈ p1, x.block < W.heap.size := fun x hx => hW'.lt x (by simp [hx])
  obtain ⟨l1, hl1⟩ := open_truths Try.underlying22 Try.underlying4 (by kernel_rfl) (hval 1 22 v1 rfl rfl) h1 hlt1
  clear hT0 hval0
  refine (BoolrleCounts_walk W v0 l0 hl0 v1 l1 hl1).mono fun e W' ⟨he, hb⟩ => ?_
  subst he
  exact ⟨_, rfl, law_post laidOut Try.underlying4 (by kernel_rfl) (by kernel_rfl) rfl hW' rfl hb⟩

theorem BoolrleCounts_over : Rows.boolrleCountsRow.holds Try.pinned (OpenSpec.ofChange Rows.boolrleCountsSpec) :=
  OpenClaim.holds_of_wide 6 Try.f6 rfl rfl rfl rfl rfl rfl rfl ⟨rfl, rfl, rfl, rfl, rfl⟩ rfl rfl rfl rfl rfl (by kernel_rfl) Try.func6 (by kernel_rfl)
    (of_decide_eq_true (by kernel_rfl)) (by unfold Func.isWrapper; first | (rw [if_pos (by decide +kernel)]; kernel_rfl) | (rw [if_neg (by decide +kernel)]; exact ⟨rfl, rfl⟩))
    (fun os started H enc _ => BoolrleCounts_lifted os started H enc)

theorem BoolrleCounts_holds : Rows.BoolrleCountsSaid := BoolrleCounts_over
#print axioms BoolrleCounts_holds

end Go.Proofs.Ytgfbmjbnmikpjaa
