/- The contract of what stands at the head of the statements of layer 4. -/
import Derived.Test.YtmmebnfahcpggaaCROpen
namespace Go.Proofs.Ytmmebnfahcpggaa
open Go.RowKit

theorem cs1 : csum [49, 50, 51, 52, 53, 54, 55, 56, 57] = 3808858755 := by decide +kernel
theorem cs2 : csum [] = 0 := by decide +kernel
theorem cs3 : cseal [] = [0, 0, 0, 0] := by decide +kernel
theorem sum_nine (g : Nat) (W : World) (ht : Tabl g W) : Calls Try.prog 10 #[.pointer (some ⟨g, 0, none⟩), .slice (some ⟨W.heap.size, 0, none⟩) 9 9] (W.alloc (.cells #[.int .u8 49, .int .u8 50, .int .u8 51, .int .u8 52, .int .u8 53, .int .u8 54, .int .u8 55, .int .u8 56, .int .u8 57] 5 (9, 10)))
    fun e w' => e = .returned (.int .u32 3808858755) ∧ Below W.heap.size W w' := by
  have hb : Below W.heap.size W (W.alloc (.cells #[.int .u8 49, .int .u8 50, .int .u8 51, .int .u8 52, .int .u8 53, .int .u8 54, .int .u8 55, .int .u8 56, .int .u8 57] 5 (9, 10))) := (Below.refl _ _).alloc (Nat.le_refl _) _
  have h := sum_any g _ _ _ (ht.below hb) (isB_mark W 5 (9, 10) [49, 50, 51, 52, 53, 54, 55, 56, 57] 9 rfl (by omega)) (by simp)
  rw [cs1] at h
  refine h.mono ?_
  rintro e w' ⟨h1, rfl⟩
  exact ⟨h1, hb⟩
theorem sum_none (g : Nat) (W : World) (ht : Tabl g W) : Calls Try.prog 10 #[.pointer (some ⟨g, 0, none⟩), .slice none 0 0] W fun e w' => e = .returned (.int .u32 0) ∧ W = w' := by
  have h := sum_any g [] _ W ht (isB_nil W) (by simp)
  rw [cs2] at h
  exact h
theorem seal_none (g : Nat) (W : World) (ht : Tabl g W) : Calls Try.prog 15 #[.pointer (some ⟨g, 0, none⟩), .slice none 0 0] W fun e w' => ∃ v, e = .returned v ∧ IsB [0, 0, 0, 0] v w' ∧ Below W.heap.size W w' := by
  have h := seal_any g [] _ W ht (isB_nil W) (by simp)
  rw [cs3] at h
  exact h.mono fun _ _ h => h.isB

set_option maxHeartbeats 1000000 in
set_option maxRecDepth 100000 in
theorem shown_any (w : World) : Calls Try.prog 7 #[] w fun e w' => e = .returned (.bool true) ∧ Below w.heap.size w w' := by
  have kc := fun (w : World) (C : Array Value) (n c : Nat) => Lib.run_convert_bytes_const (P := Try.prog) w 22 5 C n c Try.underlying22 Try.underlying5
  go_enter Try.func7, Try.ntmps7
  go_wp2_with fail
  refine (new_any _).mono ?_
  rintro e w1 ⟨rfl, hb1⟩
  go_wp2_with (refine wpList_allocArr tabT rfl rfl ?_)
  intro w2 hr2 hb2
  have hb12 := below_then hb1 hb2
  obtain ⟨g, hg⟩ : ∃ g, g = w1.heap.size := ⟨_, rfl⟩
  have hgw : w.heap.size ≤ g := by rw [hg]; exact hb1.size
  rw [← hg] at hr2 ⊢
  clear hb1 hb2 hg
  go_wp2_with (refine wpList_storeArr tabT rfl _ _ rfl g _ _ ctab rfl rfl hr2 ctab_len (zeroRow_len _ _) ctab_one w w.heap.size hb12 hgw ?_)
  intro w3 hr3 hb3 _
  have HT : Hid (Tabl g w3) := Lib.hid ⟨_, hr3⟩
  have HB3 := Lib.hid hb3
  clear hr2 hr3 hb12 hb3 hgw
  go_wp2_with fail
  refine (sum_nine g _ HT.out).mono ?_
  rintro e w4 ⟨rfl, hb4⟩
  have HB4 := Lib.hid (below_then HB3.out hb4)
  have HT4 := Lib.hid (HT.out.below hb4)
  clear hb4
  go_wp2_with fail
  refine (sum_none g _ HT4.out).mono ?_
  rintro e w' ⟨rfl, rfl⟩
  go_wp2_with fail
  refine (seal_none g _ HT4.out).mono ?_
  rintro e w5 ⟨v5, rfl, hv5, hb5⟩
  have hcv := textB hv5
  have HB5 := Lib.hid (below_then HB4.out hb5)
  clear hv5 hb5
  go_wp2
  go_ret
  exact ⟨rfl, HB5.out⟩
end Go.Proofs.Ytmmebnfahcpggaa
