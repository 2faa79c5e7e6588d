
/- The contract of what stands at the head of the statements of layer 6. -/

import Derived.Test.YtgfbmjbnmikpjaaQIs

namespace Go.Proofs.Ytgfbmjbnmikpjaa

open Go.RowKit

theorem fewL_is {l : List Bool} {v : Value} {w : World} (h : IsV Value.bool l v w) : Calls Try.prog 8 #[v] w fun e w' => (∃ u, e = .returned u ∧ IsV Value.bool (l.take 4200) u w') ∧ w = w' := by
  obtain ⟨A, n, c, rfl⟩ := h.shape
  have HH := Lib.hid h
  obtain ⟨hn, _, hnc, hcm, _⟩ := h.parts
  have hci : (c : Int) ≤ 9223372036854775807 := by unfold maxLen at hcm; omega
  clear h hcm
  by_cases h : n ≤ 4200
  · have h1 : ¬ (4200 : Int) < (n : Int) := by omega
    have HR := Lib.hid (show IsV Value.bool (l.take 4200) (.slice A n c) w by rw [List.take_of_length_le (by omega)]; exact HH.out)
    clear hn
    go_enter Try.func8, Try.ntmps8
    go_wp2
    go_ret
    exact ⟨⟨_, rfl, HR.out⟩, rfl⟩
  · have h1 : (4200 : Int) < (n : Int) := by omega
    have HR := Lib.hid (HH.out.take (show 4200 ≤ n by omega))
    clear hn
    go_enter Try.func8, Try.ntmps8
    go_wp2
    go_ret
    exact ⟨⟨_, rfl, HR.out⟩, rfl⟩
theorem qs1 : qputE [true, false, true] = ([255, 160], 0) := by decide +kernel
theorem qs2 : qtakeE [255, 160] 3 = ([true, false, true], [], 0) := by decide +kernel
theorem qs3 : qtakeE [255, 161] 3 = ([], [], 2) := by decide +kernel
theorem put_three (W : World) : Calls Try.prog 9 #[.slice (some ⟨W.heap.size, 0, none⟩) 3 3] (W.alloc (.cells #[.bool true, .bool false, .bool true] 4))
    fun e w' => ∃ v, e = .returned (.tuple #[v, .int .i64 0]) ∧ IsB [255, 160] v w' ∧ Below W.heap.size W w' := by
  have hb : Below W.heap.size W (W.alloc (.cells #[.bool true, .bool false, .bool true] 4)) := (Below.refl _ _).alloc (Nat.le_refl _) _
  have h := qput_any _ _ _ (isV_new Value.bool W 4 [true, false, true] 3 rfl (by omega)) (by simp)
  rw [qs1] at h
  refine h.mono ?_
  rintro e w' ⟨v, h1, h2, h3⟩
  exact ⟨v, h1, h2, below_then hb h3⟩
theorem take_three (W : World) : Calls Try.prog 13 #[.slice (some ⟨W.heap.size, 0, none⟩) 2 2, .int .i64 3] (W.alloc (.cells #[.int .u8 255, .int .u8 160] 5))
    fun e w' => ∃ ad c v, e = .returned (.tuple #[.slice (some ad) 3 c, v, .int .i64 0]) ∧ w'.cell? (ad.add 0) = some (.bool true) ∧ w'.cell? (ad.add 1) = some (.bool false) ∧ w'.cell? (ad.add 2) = some (.bool true) ∧ ad.block < w'.heap.size ∧ Below W.heap.size W w' := by
  have hb : Below W.heap.size W (W.alloc (.cells #[.int .u8 255, .int .u8 160] 5)) := (Below.refl _ _).alloc (Nat.le_refl _) _
  have h := qtake_any _ _ 3 _ (isB_new W 5 [255, 160] 2 rfl (by omega)) (by simp)
  rw [qs2] at h
  refine h.mono ?_
  rintro e w' ⟨u, v, h1, ⟨A, c, rfl, _, _, _, hl⟩, _, h3⟩
  rcases hl with hl | ⟨ad, rfl, hlt, hc⟩
  · simp at hl
  · exact ⟨ad, c, v, h1, hc 0 _ rfl, hc 1 _ rfl, hc 2 _ rfl, hlt, below_then hb h3⟩
theorem take_bad (W : World) : Calls Try.prog 13 #[.slice (some ⟨W.heap.size, 0, none⟩) 2 2, .int .i64 3] (W.alloc (.cells #[.int .u8 255, .int .u8 161] 5))
    fun e w' => ∃ x y, e = .returned (.tuple #[x, y, .int .i64 2]) ∧ Below W.heap.size W w' := by
  have hb : Below W.heap.size W (W.alloc (.cells #[.int .u8 255, .int .u8 161] 5)) := (Below.refl _ _).alloc (Nat.le_refl _) _
  have h := qtake_any _ _ 3 _ (isB_new W 5 [255, 161] 2 rfl (by omega)) (by simp)
  rw [qs3] at h
  exact h.mono fun e w' ⟨x, y, h1, _, _, h4⟩ => ⟨x, y, h1, below_then hb h4⟩

set_option maxHeartbeats 1000000 in
set_option maxRecDepth 100000 in
theorem shown_any (w : World) : Calls Try.prog 7 #[] w fun e w' => e = .returned (.bool true) ∧ Below w.heap.size w w' := by
  go_enter Try.func7, Try.ntmps7
  go_wp2_with fail
  refine (put_three w).mono ?_
  rintro e w1 ⟨v1, rfl, hv1, hb1⟩
  have HV1 := Lib.hid hv1
  have HB1 := Lib.hid hb1
  clear hv1 hb1
  go_wp2_with fail
  refine (take_three w1).mono ?_
  rintro e w2 ⟨ad, c2, v2, rfl, hc0, hc1, hc2, hlt, hb2⟩
  have HC0 := Lib.hid hc0
  have HC1 := Lib.hid hc1
  have HC2 := Lib.hid hc2
  have HLT := Lib.hid hlt
  have HV2 := Lib.hid (HV1.out.below hb2)
  have HB2 := Lib.hid (below_then HB1.out hb2)
  clear hc0 hc1 hc2 hlt hb2
  go_wp2_with fail
  refine (take_bad w2).mono ?_
  rintro e w3 ⟨x3, y3, rfl, hb3⟩
  have hcv := textB (HV2.out.below hb3)
  have hc0 : w3.cell? ad = some (.bool true) := (hb3.cell HLT.out).trans (by simpa [Addr.add] using HC0.out)
  have hc1 : w3.cell? ⟨ad.block, ad.off + 1, none⟩ = some (.bool false) := (hb3.cell (p := ⟨ad.block, ad.off + 1, none⟩) HLT.out).trans (by simpa [Addr.add] using HC1.out)
  have hc2 : w3.cell? ⟨ad.block, ad.off + 2, none⟩ = some (.bool true) := (hb3.cell (p := ⟨ad.block, ad.off + 2, none⟩) HLT.out).trans (by simpa [Addr.add] using HC2.out)
  have HB3 := Lib.hid (below_then HB2.out hb3)
  clear hb3
  go_wp2
  go_ret
  exact ⟨rfl, HB3.out⟩
end Go.Proofs.Ytgfbmjbnmikpjaa
