/- Texts that the claims of this seat share, part 4: GHold GShown. -/
import Derived.Test.YtgbmppdbahjjhaaDoorG3
/- What is known of values may be (layer 17: P17.3 of P17.1). -/





namespace Go.Proofs.YtgbmppdbahjjhaaDoor

theorem gmay_gof {k : Int} {l : List CV} (hk : kmay k nul = true) (hm : ∀ x ∈ l, kmay k x = true) (hl : l.length ≤ 409600) : gmayE k (gofE k l) = true := by
  have hc : ((nsome l).length : Int) ≤ 409600 := by have := nsome_len l; omega
  have hin : ∀ x ∈ nsome l, kmay k x = true ∧ x.null = false := fun x hx => ⟨hm x (by unfold nsome at hx; exact (List.mem_filter.1 hx).1), nsome_null x hx⟩
  have hmin : kmay k (gleast (nsome l)) = true ∧ (gleast (nsome l)).null = decide (((nsome l).length : Int) = 0) := by
    by_cases h : nsome l = []
    · rw [h]; exact ⟨hk, by simp [gleast, nul]⟩
    · obtain ⟨h1, _⟩ := gleast_is h
      obtain ⟨h2, h3⟩ := hin _ h1
      refine ⟨h2, ?_⟩
      rw [h3]
      symm
      rw [decide_eq_false_iff_not]
      intro h4
      exact h (List.eq_nil_of_length_eq_zero (by omega))
  have hmax : kmay k (gmost (nsome l)) = true ∧ (gmost (nsome l)).null = decide (((nsome l).length : Int) = 0) := by
    by_cases h : nsome l = []
    · rw [h]; exact ⟨hk, by simp [gmost, nul]⟩
    · obtain ⟨h1, _⟩ := gmost_is h
      obtain ⟨h2, h3⟩ := hin _ h1
      refine ⟨h2, ?_⟩
      rw [h3]
      symm
      rw [decide_eq_false_iff_not]
      intro h4
      exact h (List.eq_nil_of_length_eq_zero (by omega))
  have hcm : ¬ kcmp (gmost (nsome l)) (gleast (nsome l)) < 0 := by
    by_cases h : nsome l = []
    · rw [h]; show ¬ kcmp nul nul < 0; rw [kcmp_self]; omega
    · obtain ⟨h1, h2⟩ := gleast_is h
      have h3 := h2 _ (gmost_is h).1
      have h4 := kcmp_neg (gmost (nsome l)) (gleast (nsome l))
      omega
  rw [gmayE_in (k := k) (s := gofE k l) (by unfold gofE; dsimp only; omega) (by unfold gofE; dsimp only; omega) hmin.1 hmax.1 hmin.2 hmax.2 hcm]
  unfold gofE gsumE
  dsimp only
  cases knumber k with
  | false => simp
  | true =>
    simp only [↓reduceIte, Bool.true_and, Bool.and_true, Bool.or_true]
    split <;> simp
theorem kmay_nul {k : Int} (h1 : 1 ≤ k) (h7 : k ≤ 7) : kmay k nul = true := by
  unfold kmay nul
  rw [if_neg (by simp; omega)]
  simp
end Go.Proofs.YtgbmppdbahjjhaaDoor

/- The contract of what stands at the head of the statements of layer 17. Written by gen_stats_laws.py. -/



namespace Go.Proofs.YtgbmppdbahjjhaaDoor

open Go.RowKit

theorem gof_one17 : gofE 2 [⟨false, 3, ⟨#[]⟩⟩, ⟨true, 0, ⟨#[]⟩⟩, ⟨false, (-1), ⟨#[]⟩⟩] = ⟨2, true, ⟨false, (-1), ⟨#[]⟩⟩, ⟨false, 3, ⟨#[]⟩⟩, 2, false⟩ := by rfl
theorem isR_one17 (w : World) : IsR kcells [⟨false, 3, ⟨#[]⟩⟩, ⟨true, 0, ⟨#[]⟩⟩, ⟨false, (-1), ⟨#[]⟩⟩] (.slice (some ⟨w.heap.size, 0, none⟩) 3 3) (w.alloc (.cells #[.bool false, .int .i64 3, .string ⟨#[]⟩, .bool true, .int .i64 0, .string ⟨#[]⟩, .bool false, .int .i64 (-1), .string ⟨#[]⟩] 26)) :=
  isR_row (show Row (w.alloc (.cells #[.bool false, .int .i64 3, .string ⟨#[]⟩, .bool true, .int .i64 0, .string ⟨#[]⟩, .bool false, .int .i64 (-1), .string ⟨#[]⟩] 26)) w.heap.size 26 (([⟨false, 3, ⟨#[]⟩⟩, ⟨true, 0, ⟨#[]⟩⟩, ⟨false, (-1), ⟨#[]⟩⟩] : List CV).flatMap kcells) from heap_alloc_new w _) rfl (by omega)
theorem call_one17 (w : World) (hU : Tryd.U8 w) : Calls Tryd.prog 9 #[.int .i64 2, .slice (some ⟨w.heap.size, 0, none⟩) 3 3] (w.alloc (.cells #[.bool false, .int .i64 3, .string ⟨#[]⟩, .bool true, .int .i64 0, .string ⟨#[]⟩, .bool false, .int .i64 (-1), .string ⟨#[]⟩] 26)) fun e w' => e = .returned (.agg #[.int .i64 2, .bool true, .bool false, .int .i64 (-1), .string ⟨#[]⟩, .bool false, .int .i64 3, .string ⟨#[]⟩, .int .i64 2, .bool false]) ∧ Below w.heap.size w w' := by
  have hb : Below w.heap.size w (w.alloc (.cells #[.bool false, .int .i64 3, .string ⟨#[]⟩, .bool true, .int .i64 0, .string ⟨#[]⟩, .bool false, .int .i64 (-1), .string ⟨#[]⟩] 26)) := (Below.refl _ _).alloc (Nat.le_refl _) _
  have h := gof_any 2 [⟨false, 3, ⟨#[]⟩⟩, ⟨true, 0, ⟨#[]⟩⟩, ⟨false, (-1), ⟨#[]⟩⟩] _ _ (Utf8Tabs_below hU hb) (isR_one17 w) (by intro x hx; simp only [List.mem_cons, List.not_mem_nil, or_false] at hx; unfold CV.inInt; rcases hx with rfl | rfl | rfl <;> (dsimp only; omega))
    (by intro x hx; simp only [List.mem_cons, List.not_mem_nil, or_false] at hx; rcases hx with rfl | rfl | rfl <;> simp [ByteArray.size]) (by intro x hx; simp only [List.mem_cons, List.not_mem_nil, or_false] at hx; rcases hx with rfl | rfl | rfl <;> decide +kernel) (by simp)
  rw [gof_one17] at h
  exact h.mono fun e w' ⟨h1, h2⟩ => ⟨h1, below_then hb h2⟩
theorem eq_one17 (W : World) : (binOp .eql 28 (.agg #[.int .i64 2, .bool true, .bool false, .int .i64 (-1), .string ⟨#[]⟩, .bool false, .int .i64 3, .string ⟨#[]⟩, .int .i64 2, .bool false]) (.agg #[.int .i64 2, .bool true, .bool false, .int .i64 (-1), .string ⟨#[]⟩, .bool false, .int .i64 3, .string ⟨#[]⟩, .int .i64 2, .bool false])).run Tryd.prog W = .ok (.bool true) W := eqS_run ⟨2, true, ⟨false, (-1), ⟨#[]⟩⟩, ⟨false, 3, ⟨#[]⟩⟩, 2, false⟩ W
theorem gof_two17 : gofE 2 [⟨false, 9223372036854775807, ⟨#[]⟩⟩, ⟨false, 1, ⟨#[]⟩⟩] = ⟨2, false, ⟨false, 1, ⟨#[]⟩⟩, ⟨false, 9223372036854775807, ⟨#[]⟩⟩, 0, true⟩ := by rfl
theorem isR_two17 (w : World) : IsR kcells [⟨false, 9223372036854775807, ⟨#[]⟩⟩, ⟨false, 1, ⟨#[]⟩⟩] (.slice (some ⟨w.heap.size, 0, none⟩) 2 2) (w.alloc (.cells #[.bool false, .int .i64 9223372036854775807, .string ⟨#[]⟩, .bool false, .int .i64 1, .string ⟨#[]⟩] 26)) :=
  isR_row (show Row (w.alloc (.cells #[.bool false, .int .i64 9223372036854775807, .string ⟨#[]⟩, .bool false, .int .i64 1, .string ⟨#[]⟩] 26)) w.heap.size 26 (([⟨false, 9223372036854775807, ⟨#[]⟩⟩, ⟨false, 1, ⟨#[]⟩⟩] : List CV).flatMap kcells) from heap_alloc_new w _) rfl (by omega)
theorem call_two17 (w : World) (hU : Tryd.U8 w) : Calls Tryd.prog 9 #[.int .i64 2, .slice (some ⟨w.heap.size, 0, none⟩) 2 2] (w.alloc (.cells #[.bool false, .int .i64 9223372036854775807, .string ⟨#[]⟩, .bool false, .int .i64 1, .string ⟨#[]⟩] 26)) fun e w' => e = .returned (.agg #[.int .i64 2, .bool false, .bool false, .int .i64 1, .string ⟨#[]⟩, .bool false, .int .i64 9223372036854775807, .string ⟨#[]⟩, .int .i64 0, .bool true]) ∧ Below w.heap.size w w' := by
  have hb : Below w.heap.size w (w.alloc (.cells #[.bool false, .int .i64 9223372036854775807, .string ⟨#[]⟩, .bool false, .int .i64 1, .string ⟨#[]⟩] 26)) := (Below.refl _ _).alloc (Nat.le_refl _) _
  have h := gof_any 2 [⟨false, 9223372036854775807, ⟨#[]⟩⟩, ⟨false, 1, ⟨#[]⟩⟩] _ _ (Utf8Tabs_below hU hb) (isR_two17 w) (by intro x hx; simp only [List.mem_cons, List.not_mem_nil, or_false] at hx; unfold CV.inInt; rcases hx with rfl | rfl <;> (dsimp only; omega))
    (by intro x hx; simp only [List.mem_cons, List.not_mem_nil, or_false] at hx; rcases hx with rfl | rfl <;> simp [ByteArray.size]) (by intro x hx; simp only [List.mem_cons, List.not_mem_nil, or_false] at hx; rcases hx with rfl | rfl <;> decide +kernel) (by simp)
  rw [gof_two17] at h
  exact h.mono fun e w' ⟨h1, h2⟩ => ⟨h1, below_then hb h2⟩
theorem eq_two17 (W : World) : (binOp .eql 28 (.agg #[.int .i64 2, .bool false, .bool false, .int .i64 1, .string ⟨#[]⟩, .bool false, .int .i64 9223372036854775807, .string ⟨#[]⟩, .int .i64 0, .bool true]) (.agg #[.int .i64 2, .bool false, .bool false, .int .i64 1, .string ⟨#[]⟩, .bool false, .int .i64 9223372036854775807, .string ⟨#[]⟩, .int .i64 0, .bool true])).run Tryd.prog W = .ok (.bool true) W := eqS_run ⟨2, false, ⟨false, 1, ⟨#[]⟩⟩, ⟨false, 9223372036854775807, ⟨#[]⟩⟩, 0, true⟩ W
set_option maxHeartbeats 4000000 in
set_option maxRecDepth 100000 in
theorem shown17_any (w : World) (hU : Tryd.U8 w) : Calls Tryd.prog 7 #[] w fun e w' => e = .returned (.bool true) ∧ Below w.heap.size w w' := by
  have HU := Lib.hid hU
  have heq1 := eq_one17
  have heq2 := eq_two17
  clear hU
  go_enter Tryd.func7, Tryd.ntmps7
  go_wp2_with fail
  refine (call_one17 w HU.out).mono ?_
  rintro e w1 ⟨rfl, hb1⟩
  obtain ⟨w2, hw2⟩ : ∃ w2, w2 = w1.alloc (.cells #[.int .i64 2, .bool true, .bool false, .int .i64 (-1), .string ⟨#[]⟩, .bool false, .int .i64 3, .string ⟨#[]⟩, .int .i64 2, .bool false] 28) := ⟨_, rfl⟩
  have hb2 : Below w1.heap.size w1 w2 := by rw [hw2]; exact (Below.refl _ _).alloc (Nat.le_refl _) _
  have r2 : Row w2 w1.heap.size 28 [.int .i64 2, .bool true, .bool false, .int .i64 (-1), .string ⟨#[]⟩, .bool false, .int .i64 3, .string ⟨#[]⟩, .int .i64 2, .bool false] := by rw [hw2]; exact heap_alloc_new w1 _
  have HB2 := Lib.hid (below_then hb1 hb2)
  have HC2 := Lib.hid (call_two17 w2 (Utf8Tabs_below HU.out HB2.out))
  have HR2 := Lib.hid r2
  have hz2 : w2.heap.size = w1.heap.size + 1 := by rw [hw2]; simp
  rw [hz2, hw2] at HC2
  have HW2 := Lib.hid hw2
  have HZ2 := Lib.hid hz2
  clear hb1 hb2 r2 hw2 hz2
  go_wp2_with fail
  refine HC2.out.mono ?_
  rintro e w3 ⟨rfl, hb3⟩
  rw [← HW2.out, ← HZ2.out] at hb3
  have HR3 := Lib.hid (HR2.out.below hb3 HR2.out.lt)
  have HB3 := Lib.hid (below_then HB2.out hb3)
  have HR4 := Lib.hid (HR3.out.alloc (.cells #[.int .i64 2, .bool false, .bool false, .int .i64 1, .string ⟨#[]⟩, .bool false, .int .i64 9223372036854775807, .string ⟨#[]⟩, .int .i64 0, .bool true] 28))
  have HB4 : Hid (Below w.heap.size w (w3.alloc (.cells #[.int .i64 2, .bool false, .bool false, .int .i64 1, .string ⟨#[]⟩, .bool false, .int .i64 9223372036854775807, .string ⟨#[]⟩, .int .i64 0, .bool true] 28))) := Lib.hid (HB3.out.alloc HB3.out.size _)
  have c0 : (w3.alloc (.cells #[.int .i64 2, .bool false, .bool false, .int .i64 1, .string ⟨#[]⟩, .bool false, .int .i64 9223372036854775807, .string ⟨#[]⟩, .int .i64 0, .bool true] 28)).cell? ⟨w1.heap.size, 0, none⟩ = some (.int .i64 2) := HR4.out.cell 0
  have c1 : (w3.alloc (.cells #[.int .i64 2, .bool false, .bool false, .int .i64 1, .string ⟨#[]⟩, .bool false, .int .i64 9223372036854775807, .string ⟨#[]⟩, .int .i64 0, .bool true] 28)).cell? ⟨w1.heap.size, 1, none⟩ = some (.bool true) := HR4.out.cell 1
  have c2 : (w3.alloc (.cells #[.int .i64 2, .bool false, .bool false, .int .i64 1, .string ⟨#[]⟩, .bool false, .int .i64 9223372036854775807, .string ⟨#[]⟩, .int .i64 0, .bool true] 28)).cell? ⟨w1.heap.size, 2, none⟩ = some (.bool false) := HR4.out.cell 2
  have c3 : (w3.alloc (.cells #[.int .i64 2, .bool false, .bool false, .int .i64 1, .string ⟨#[]⟩, .bool false, .int .i64 9223372036854775807, .string ⟨#[]⟩, .int .i64 0, .bool true] 28)).cell? ⟨w1.heap.size, 3, none⟩ = some (.int .i64 (-1)) := HR4.out.cell 3
  have c4 : (w3.alloc (.cells #[.int .i64 2, .bool false, .bool false, .int .i64 1, .string ⟨#[]⟩, .bool false, .int .i64 9223372036854775807, .string ⟨#[]⟩, .int .i64 0, .bool true] 28)).cell? ⟨w1.heap.size, 4, none⟩ = some (.string ⟨#[]⟩) := HR4.out.cell 4
  have c5 : (w3.alloc (.cells #[.int .i64 2, .bool false, .bool false, .int .i64 1, .string ⟨#[]⟩, .bool false, .int .i64 9223372036854775807, .string ⟨#[]⟩, .int .i64 0, .bool true] 28)).cell? ⟨w1.heap.size, 5, none⟩ = some (.bool false) := HR4.out.cell 5
  have c6 : (w3.alloc (.cells #[.int .i64 2, .bool false, .bool false, .int .i64 1, .string ⟨#[]⟩, .bool false, .int .i64 9223372036854775807, .string ⟨#[]⟩, .int .i64 0, .bool true] 28)).cell? ⟨w1.heap.size, 6, none⟩ = some (.int .i64 3) := HR4.out.cell 6
  have c7 : (w3.alloc (.cells #[.int .i64 2, .bool false, .bool false, .int .i64 1, .string ⟨#[]⟩, .bool false, .int .i64 9223372036854775807, .string ⟨#[]⟩, .int .i64 0, .bool true] 28)).cell? ⟨w1.heap.size, 7, none⟩ = some (.string ⟨#[]⟩) := HR4.out.cell 7
  have c8 : (w3.alloc (.cells #[.int .i64 2, .bool false, .bool false, .int .i64 1, .string ⟨#[]⟩, .bool false, .int .i64 9223372036854775807, .string ⟨#[]⟩, .int .i64 0, .bool true] 28)).cell? ⟨w1.heap.size, 8, none⟩ = some (.int .i64 2) := HR4.out.cell 8
  have c9 : (w3.alloc (.cells #[.int .i64 2, .bool false, .bool false, .int .i64 1, .string ⟨#[]⟩, .bool false, .int .i64 9223372036854775807, .string ⟨#[]⟩, .int .i64 0, .bool true] 28)).cell? ⟨w1.heap.size, 9, none⟩ = some (.bool false) := HR4.out.cell 9
  clear hb3
  go_wp2
  go_ret
  exact ⟨rfl, HB4.out⟩
end Go.Proofs.YtgbmppdbahjjhaaDoor
