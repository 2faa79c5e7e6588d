
/- The contract of what stands at the head of the statements of layer 13. -/

import Derived.Test.YtffglnccpbbclaaNIs

namespace Go.Proofs.Ytffglnccpbbclaa

open Go.RowKit

/-- few: at most 4200 of them. -/
theorem few_is {l : List CV} {v : Value} {w : World} (h : IsR kcells l v w) : Calls Try.prog 8 #[v] w fun e w' => (∃ u, e = .returned u ∧ IsR kcells (l.take 4200) u w') ∧ w = w' := by
  obtain ⟨A, n, c, rfl⟩ := h.shape
  have HH := Lib.hid h
  obtain ⟨hn, _, hnc, hcm, _⟩ := h.parts
  have hci : (c : Int) ≤ 9223372036854775807 := by unfold maxLen at hcm; omega
  clear h hcm
  by_cases h : n ≤ 4200
  · have h1 : ¬ (4200 : Int) < (n : Int) := by omega
    have HR := Lib.hid (show IsR kcells (l.take 4200) (.slice A n c) w by rw [List.take_of_length_le (by omega)]; exact HH.out)
    clear hn
    go_enter Try.func8, Try.ntmps8
    go_wp2
    go_ret
    exact ⟨⟨_, rfl, HR.out⟩, rfl⟩
  · have h1 : (4200 : Int) < (n : Int) := by omega
    have HR := Lib.hid (HH.out.take (m := 3) (fun _ => rfl) (show 4200 ≤ n by omega))
    clear hn
    go_enter Try.func8, Try.ntmps8
    go_wp2
    go_ret
    exact ⟨⟨_, rfl, HR.out⟩, rfl⟩
theorem isR_new (w : World) (l : List CV) (m : Nat) (hl : l.length = m) (hm : m ≤ 1000000) : IsR kcells l (.slice (some ⟨w.heap.size, 0, none⟩) m m) (w.alloc (.cells (l.flatMap kcells).toArray 42)) := by
  subst hl
  exact ⟨_, _, rfl, by simp, Nat.le_refl _, by unfold maxLen; omega, cells_new w _ _⟩
theorem ns1 : nputE [nv 5, nul, nv 6] = ([255, 160], [nv 5, nv 6], 0) := by
  have h1 : (nsome [nv 5, nul, nv 6]) = [nv 5, nv 6] := rfl
  have h2 : yput (qpack (npresent [nv 5, nul, nv 6])) = [255, 160] := by decide +kernel
  rw [nputE_some (by decide) (by rw [h1]; decide), h1, h2]
theorem ns2 : nputE [nv 5, nv 6] = ([], [nv 5, nv 6], 0) := nputE_all (by decide) rfl
theorem put_three (W : World) : Calls Try.prog 15 #[.slice (some ⟨W.heap.size, 0, none⟩) 3 3] (W.alloc (.cells #[.bool false, .int .i64 5, .string ⟨#[]⟩, .bool true, .int .i64 0, .string ⟨#[]⟩, .bool false, .int .i64 6, .string ⟨#[]⟩] 42))
    fun e w' => ∃ v ad c, e = .returned (.tuple #[v, .slice (some ad) 2 c, .int .i64 0]) ∧ IsB [255, 160] v w' ∧ (w'.cell? ⟨ad.block, ad.off + 4, none⟩ = some (.int .i64 6) ∧ ad.block < w'.heap.size) ∧ Below W.heap.size W w' := by
  have hb : Below W.heap.size W (W.alloc (.cells #[.bool false, .int .i64 5, .string ⟨#[]⟩, .bool true, .int .i64 0, .string ⟨#[]⟩, .bool false, .int .i64 6, .string ⟨#[]⟩] 42)) := (Below.refl _ _).alloc (Nat.le_refl _) _
  have h := nput_any _ _ _ (isR_new W [nv 5, nul, nv 6] 3 rfl (by omega)) (by simp)
  rw [ns1] at h
  refine h.mono ?_
  rintro e w' ⟨u, v, h1, h2, h3, h4⟩
  obtain ⟨A, n, c, rfl⟩ := h3.shape
  obtain rfl : 2 = n := h3.parts.1
  obtain ⟨ad, rfl, hlt, hc⟩ := h3.at (m := 3) (k := 1) (fun _ => rfl) (by omega) (by simp)
  exact ⟨u, ad, c, h1, h2, ⟨hc 1 (by omega), hlt⟩, below_then hb h4⟩
theorem put_two (W : World) : Calls Try.prog 15 #[.slice (some ⟨W.heap.size, 0, none⟩) 2 2] (W.alloc (.cells #[.bool false, .int .i64 5, .string ⟨#[]⟩, .bool false, .int .i64 6, .string ⟨#[]⟩] 42))
    fun e w' => ∃ A B c d, e = .returned (.tuple #[.slice A 0 c, .slice B 2 d, .int .i64 0]) ∧ Below W.heap.size W w' := by
  have hb : Below W.heap.size W (W.alloc (.cells #[.bool false, .int .i64 5, .string ⟨#[]⟩, .bool false, .int .i64 6, .string ⟨#[]⟩] 42)) := (Below.refl _ _).alloc (Nat.le_refl _) _
  have h := nput_any _ _ _ (isR_new W [nv 5, nv 6] 2 rfl (by omega)) (by simp)
  rw [ns2] at h
  refine h.mono ?_
  rintro e w' ⟨u, v, h1, ⟨A, c, rfl, _⟩, ⟨B, d, rfl, _⟩, h4⟩
  exact ⟨A, B, c, d, h1, below_then hb h4⟩
set_option maxHeartbeats 1000000 in
set_option maxRecDepth 100000 in
theorem shown_any (w : World) : Calls Try.prog 7 #[] w fun e w' => e = .returned (.bool true) ∧ Below w.heap.size w w' := by
  go_enter Try.func7, Try.ntmps7
  go_wp2_with fail
  refine (put_three w).mono ?_
  rintro e w1 ⟨v1, ad, c1, rfl, hv1, hc4, hb1⟩
  have HV1 := Lib.hid hv1
  have HC4 := Lib.hid hc4
  have HB1 := Lib.hid hb1
  clear hv1 hb1 hc4
  go_wp2_with fail
  refine (put_two w1).mono ?_
  rintro e w2 ⟨A, B, c, d, rfl, hb2⟩
  have hcv := textB (HV1.out.below hb2)
  have hc4 : w2.cell? ⟨ad.block, ad.off + 4, none⟩ = some (.int .i64 6) := (hb2.cell (p := ⟨ad.block, ad.off + 4, none⟩) HC4.out.2).trans HC4.out.1
  have HB2 := Lib.hid (below_then HB1.out hb2)
  clear hb2
  go_wp2
  go_ret
  exact ⟨rfl, HB2.out⟩
theorem njoin_len : ∀ {p : List Bool} {s l : List CV}, njoin p s = some l → l.length = p.length
  | [], [], l, h => by injection h with h; subst h; rfl
  | [], _ :: _, l, h => by cases h
  | false :: p, s, l, h => by
    obtain ⟨y, hy, rfl⟩ := Option.map_eq_some_iff.1 h
    simp [njoin_len hy]
  | true :: _, [], l, h => by cases h
  | true :: p, x :: s, l, h => by
    have h' : (if x.null then none else (njoin p s).map (x :: ·)) = some l := h
    cases hn : x.null with
    | true => rw [hn] at h'; cases h'
    | false =>
      rw [hn, if_neg (by simp)] at h'
      obtain ⟨y, hy, rfl⟩ := Option.map_eq_some_iff.1 h'
      simp [njoin_len hy]
theorem njoinE_len (p : List Bool) (s : List CV) : (njoinE p s).1.length ≤ p.length := by
  cases h : njoin p s with
  | none => rw [njoinE_no h]; simp
  | some l => rw [njoinE_yes h]; exact Nat.le_of_eq (njoin_len h)
theorem nputE_len (l : List CV) : (nputE l).2.1.length ≤ l.length := by
  unfold nputE
  split
  · simp
  · split <;> exact nsome_len l
theorem ntakeE_len (b : List UInt8) (many : Int) : (ntakeE b many).1.length ≤ 1000000 := by
  unfold ntakeE
  split
  · simp
  · split
    · simp; omega
    · split
      · simp
      · exact qtakeE_bd b many
end Go.Proofs.Ytffglnccpbbclaa
