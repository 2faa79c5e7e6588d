/- Texts that the claims of this seat share, part 11: IShown. -/
import Derived.Test.YtlibofmpnlfelaaGreatDoorAG10
/- The contract of what stands at the head of the statements of layer 14. -/



namespace Go.Proofs.YtlibofmpnlfelaaGreatDoor

open Go.RowKit

/-- few: at most 600 of them. -/
theorem few_is {l : List CV} {v : Value} {w : World} (h : IsR kcells l v w) : Calls Tryz.prog 7 #[v] w fun e w' => (∃ u, e = .returned u ∧ IsR kcells (l.take 600) u w') ∧ w = w' := by
  obtain ⟨A, n, c, rfl⟩ := h.shape
  have HH := Lib.hid h
  obtain ⟨hn, _, hnc, hcm, _⟩ := h.parts
  have hci : (c : Int) ≤ 9223372036854775807 := by unfold maxLen at hcm; omega
  clear h hcm
  by_cases h : n ≤ 600
  · have h1 : ¬ (600 : Int) < (n : Int) := by omega
    have HR := Lib.hid (show IsR kcells (l.take 600) (.slice A n c) w by rw [List.take_of_length_le (by omega)]; exact HH.out)
    clear hn
    go_enter Tryz.func7, Tryz.ntmps7
    go_wp2
    go_ret
    exact ⟨⟨_, rfl, HR.out⟩, rfl⟩
  · have h1 : (600 : Int) < (n : Int) := by omega
    have HR := Lib.hid (HH.out.take (m := 3) (fun _ => rfl) (show 600 ≤ n by omega))
    clear hn
    go_enter Tryz.func7, Tryz.ntmps7
    go_wp2
    go_ret
    exact ⟨⟨_, rfl, HR.out⟩, rfl⟩
theorem isR_new (w : World) (l : List CV) (m : Nat) (hl : l.length = m) (hm : m ≤ 1000000) : IsR kcells l (.slice (some ⟨w.heap.size, 0, none⟩) m m) (w.alloc (.cells (l.flatMap kcells).toArray 36)) := by
  subst hl
  exact ⟨_, _, rfl, by simp, Nat.le_refl _, by unfold maxLen; omega, cells_new w _ _⟩
theorem in_small {n : Int} (h : -2000 ≤ n ∧ n ≤ 2000) : inInt n := by unfold inInt; omega
theorem is1 : iputE 1 [nv 1, nv 0, nv 1] = ([255, 160], 0) := by
  show iputE 1 ([1, 0, 1].map nv) = _
  rw [iputE_in (by decide) (by decide) (imay_num (ns := [1, 0, 1]) (by decide) (by decide) (by decide)), if_pos rfl]
  decide +kernel
theorem is2 : iputE 5 [nv 1001, nv 1001, nv 1001] = ([0, 2, 0, 1], 0) := by
  show iputE 5 ([1001, 1001, 1001].map nv) = _
  rw [iputE_in (by decide) (by decide) (imay_num (ns := [1001, 1001, 1001]) (by decide) (by decide) (by decide)), if_neg (by decide), if_pos rfl]
  decide +kernel
theorem is3 : iputE 6 [] = ([], 1) := iputE_arg (by decide)
theorem put_three (a b c : Int) (k : Int) (hk : inInt k) (W : World) (ht : WTab W) (ha : inInt a) (hb : inInt b) (hc : inInt c) : Calls Tryz.prog 8 #[.int .i64 k, .slice (some ⟨W.heap.size, 0, none⟩) 3 3] (W.alloc (.cells #[.bool false, .int .i64 a, .string ⟨#[]⟩, .bool false, .int .i64 b, .string ⟨#[]⟩, .bool false, .int .i64 c, .string ⟨#[]⟩] 36))
    fun e w' => ∃ v, e = .returned (.tuple #[v, .int .i64 (iputE k [nv a, nv b, nv c]).2]) ∧ IsB (iputE k [nv a, nv b, nv c]).1 v w' ∧ Below W.heap.size W w' := by
  have hb0 : Below W.heap.size W (W.alloc (.cells #[.bool false, .int .i64 a, .string ⟨#[]⟩, .bool false, .int .i64 b, .string ⟨#[]⟩, .bool false, .int .i64 c, .string ⟨#[]⟩] 36)) := (Below.refl _ _).alloc (Nat.le_refl _) _
  have h := iput_any k hk _ _ _ (ht.below hb0 ht.lt) (isR_new W [nv a, nv b, nv c] 3 rfl (by omega)) (by intro x hx; simp at hx; rcases hx with rfl | rfl | rfl <;> assumption) (by intro x hx; simp at hx; rcases hx with rfl | rfl | rfl <;> exact Nat.zero_le _) (by simp)
  refine h.mono ?_
  rintro e w' ⟨v, h1, h2, h3⟩
  exact ⟨v, h1, h2, below_then hb0 h3⟩
set_option maxHeartbeats 1000000 in
set_option maxRecDepth 100000 in
theorem shown_any (w : World) (ht : WTab w) : Calls Tryz.prog 6 #[] w fun e w' => e = .returned (.bool true) ∧ Below w.heap.size w w' := by
  have HT := Lib.hid ht
  have H1 := Lib.hid (put_three 1 0 1 1 (in_small (by decide)) w ht (in_small (by decide)) (in_small (by decide)) (in_small (by decide)))
  rw [is1] at H1
  have H2 := Lib.hid (fun W h1 => put_three 1001 1001 1001 5 (in_small (by decide)) W h1 (in_small (by decide)) (in_small (by decide)) (in_small (by decide)))
  rw [is2] at H2
  have H3 := Lib.hid (fun W h1 => iput_any 6 (in_small (by decide)) [] (.slice none 0 0) W h1 (isR_nil _ _) (by simp) (by simp) (by simp))
  rw [is3] at H3
  clear ht
  go_enter Tryz.func6, Tryz.ntmps6
  go_wp2_with fail
  refine H1.out.mono ?_
  rintro e w1 ⟨v1, rfl, hv1, hb1⟩
  have HV1 := Lib.hid hv1
  have HB1 := Lib.hid hb1
  have HT1 := Lib.hid (HT.out.below hb1 HT.out.lt)
  clear hv1 hb1
  go_wp2_with fail
  refine (H2.out w1 HT1.out).mono ?_
  rintro e w2 ⟨v2, rfl, hv2, hb2⟩
  have HV2 := Lib.hid hv2
  have HV12 := Lib.hid (HV1.out.below hb2)
  have HB2 := Lib.hid (below_then HB1.out hb2)
  have HT2 := Lib.hid (HT1.out.below hb2 HT1.out.lt)
  clear hv2 hb2
  go_wp2_with fail
  refine (H3.out w2 HT2.out).mono ?_
  rintro e w3 ⟨v3, rfl, _, hb3⟩
  have hc1 := textB (HV12.out.below hb3)
  have hc2 := textB (HV2.out.below hb3)
  have HB3 := Lib.hid (below_then HB2.out hb3)
  clear hb3
  go_wp2
  go_ret
  exact ⟨rfl, HB3.out⟩
end Go.Proofs.YtlibofmpnlfelaaGreatDoor
