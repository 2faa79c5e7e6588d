
/- The head of layer 19's statements: the document's examples. -/

import Derived.Test.YtocodcceimeiiaaFValO

namespace Go.Proofs.Ytocodcceimeiiaa

open Go.RowKit Go.ChangeShapes Go.WideShapes Go.ChangeAt

def fshow2 (g : Nat) : List FN := [⟨1, false, 300, [], .slice none 0 0⟩, ⟨2, true, 0, [97, 98], .slice (some ⟨g, 0, none⟩) 2 2⟩]
theorem fshow_put (g : Nat) : fputP (fshow2 g) = ([8, 172, 2, 18, 2, 97, 98], 0) := by
  show fputP (fshow2 0) = _
  decide +kernel
theorem fshow_at (w : World) (g : Nat) (h : IsB [97, 98] (.slice (some ⟨g, 0, none⟩) 2 2) w) : ∀ f ∈ fshow2 g, FAt f w := by
  intro f hf
  simp only [fshow2, List.mem_cons, List.not_mem_nil, or_false] at hf
  rcases hf with rfl | rfl
  · exact ⟨isB_nil w, by unfold inInt; dsimp only; omega, by dsimp only; omega, by simp⟩
  · exact ⟨h, by unfold inInt; dsimp only; omega, by dsimp only; omega, by simp⟩
theorem fshow_val : fputV ⟨false, -1, ⟨#[]⟩⟩ = [8, 0, 16, 1, 26, 0] := by
  unfold fputV fvalue
  rw [show (⟨#[]⟩ : ByteArray).toList = [] by rw [ByteArray.toList_eq]]
  decide +kernel
set_option maxHeartbeats 4000000 in
set_option maxRecDepth 100000 in
theorem shown19_any (w : World) : Calls Try.prog 6 #[] w fun e w' => e = .returned (.bool true) ∧ Below w.heap.size w w' := by
  go_enter Try.func6, Try.ntmps6
  have kc := fun (w : World) (C : Array Value) (n c : Nat) => Lib.run_convert_bytes_const (P := Try.prog) w 25 5 C n c Try.underlying25 Try.underlying5
  go_wp2_with fail
  clear kc
  obtain ⟨W1, hW1⟩ : ∃ x, x = w.alloc (.cells #[.int .u8 97, .int .u8 98] 5 (2, 3)) := ⟨_, rfl⟩
  have hb1 : Below w.heap.size w W1 := by rw [hW1]; exact (Below.refl _ _).alloc (Nat.le_refl _) _
  have hr1 : IsB [97, 98] (.slice (some ⟨w.heap.size, 0, none⟩) 2 2) W1 := by rw [hW1]; exact isB_mark w 5 (2, 3) [97, 98] 2 rfl (by omega)
  have hz1 : w.heap.size + 1 = W1.heap.size := by rw [hW1]; simp
  rw [← hW1, hz1]
  obtain ⟨W2, hW2⟩ : ∃ x, x = W1.alloc (.cells #[.int .i64 1, .bool false, .int .u64 300, .slice none 0 0, .int .i64 2, .bool true, .int .u64 0, .slice (some ⟨w.heap.size, 0, none⟩) 2 2] 41) := ⟨_, rfl⟩
  have hb2 : Below W1.heap.size W1 W2 := by rw [hW2]; exact (Below.refl _ _).alloc (Nat.le_refl _) _
  have hr2 : Row W2 W1.heap.size 41 ((fshow2 w.heap.size).flatMap fcells) := by rw [hW2]; exact heap_alloc_new W1 _
  have hat := fshow_at W2 w.heap.size (hr1.below hb2)
  rw [← hW2]
  have HB2 := Lib.hid (below_then hb1 hb2)
  have hput := fput_own (fshow2 w.heap.size) (.slice (some ⟨W1.heap.size, 0, none⟩) 2 2) W2 ⟨isR_row hr2 rfl (by omega), hat⟩ (by simp [fshow2])
  rw [fshow_put] at hput
  clear hW1 hW2 hb1 hb2 hr1 hr2 hz1 hat
  refine hput.mono ?_
  rintro e w3 ⟨v3, rfl, ho3, hb3⟩
  dsimp only at ho3 ⊢
  have HB3 := Lib.hid (below_then HB2.out hb3)
  have hI3 := isB_own ho3
  have ht3 := textB hI3
  have HV := Lib.hid (fun W => fputV_own ⟨false, -1, ⟨#[]⟩⟩ W (by unfold CV.inInt; dsimp only; omega) (by simp [ByteArray.size]))
  rw [fshow_val] at HV
  clear ho3 hb3 hI3 hput
  go_wp2_with fail
  refine (HV.out w3).mono ?_
  rintro e w4 ⟨v4, rfl, ho4, hb4⟩
  have HB4 := Lib.hid (below_then HB3.out hb4)
  have ht4 := textB (isB_own ho4)
  clear ho4 hb4 ht3
  go_wp2
  go_ret
  exact ⟨rfl, HB4.out⟩
end Go.Proofs.Ytocodcceimeiiaa
