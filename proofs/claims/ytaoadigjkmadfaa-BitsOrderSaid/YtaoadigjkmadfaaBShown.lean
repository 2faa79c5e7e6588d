/- The contract of what stands at the head of the statements of layer 3. -/
import Derived.Test.YtaoadigjkmadfaaBUnp
namespace Go.Proofs.Ytaoadigjkmadfaa
open Go.RowKit

theorem textB {w : World} {l : List UInt8} {v : Value} (h : IsB l v w) : (convert 26 9 v).run Try.prog w = .ok (.string ⟨l.toArray⟩) w := h.text _ _ _ Try.underlying26 Try.underlying5 Try.underlying9
theorem sh1 : packsAny [1, 2, 3] 3 = ([41, 128], 0) := by decide
theorem sh2 : packsAny [8] 3 = ([], 1) := by decide
theorem sh3 : unpacksAny [41, 128] 3 3 = ([1, 2, 3], [], 0) := by decide
theorem sh4 : unpacksAny [41, 129] 3 3 = ([], [], 2) := by decide
theorem isU_new (w : World) (t : TypeId) (l : List Nat) (m : Nat) (hl : l.length = m) (hm : m ≤ 1000000) : IsU l (.slice (some ⟨w.heap.size, 0, none⟩) m m) (w.alloc (.cells (l.map uv).toArray t)) := by
  have h : Row (w.alloc (.cells (l.map uv).toArray t)) w.heap.size t (l.map uv) := heap_alloc_new w _
  exact isU_row h hl hm
theorem isB_new (w : World) (t : TypeId) (l : List UInt8) (m : Nat) (hl : l.length = m) (hm : m ≤ 1000000) : IsB l (.slice (some ⟨w.heap.size, 0, none⟩) m m) (w.alloc (.cells (l.map bv).toArray t)) := by
  have h : Row (w.alloc (.cells (l.map bv).toArray t)) w.heap.size t (l.map bv) := heap_alloc_new w _
  exact isB_row h hl hm
theorem pack_123 (w : World) : Calls Try.prog 9 #[.slice (some ⟨w.heap.size, 0, none⟩) 3 3, .int .i64 3] (w.alloc (.cells #[.int .u64 1, .int .u64 2, .int .u64 3] 36)) fun e w' => ∃ v, e = .returned (.tuple #[v, .int .i64 0]) ∧ IsB [41, 128] v w' ∧ Below w.heap.size w w' := by
  have h := pack_is (3 : Int) (isU_new w 36 [1, 2, 3] 3 rfl (by omega)) (by simp) (by simp)
  rw [sh1] at h
  exact h.mono fun e w' ⟨v, h1, h2, h3⟩ => ⟨v, h1, h2, below_then ((Below.refl _ _).alloc (Nat.le_refl _) _) h3⟩
theorem pack_8 (w : World) : Calls Try.prog 9 #[.slice (some ⟨w.heap.size, 0, none⟩) 1 1, .int .i64 3] (w.alloc (.cells #[.int .u64 8] 36)) fun e w' => ∃ v, e = .returned (.tuple #[v, .int .i64 1]) ∧ Below w.heap.size w w' := by
  have h := pack_is (3 : Int) (isU_new w 36 [8] 1 rfl (by omega)) (by simp) (by simp)
  rw [sh2] at h
  exact h.mono fun e w' ⟨v, h1, _, h3⟩ => ⟨v, h1, below_then ((Below.refl _ _).alloc (Nat.le_refl _) _) h3⟩
theorem unpack_123 (w : World) : Calls Try.prog 14 #[.slice (some ⟨w.heap.size, 0, none⟩) 2 2, .int .i64 3, .int .i64 3] (w.alloc (.cells #[.int .u8 41, .int .u8 128] 5)) fun e w' => ∃ ad c v, e = .returned (.tuple #[.slice (some ad) 3 c, v, .int .i64 0]) ∧ w'.cell? (ad.add 0) = some (.int .u64 1) ∧ w'.cell? (ad.add 1) = some (.int .u64 2) ∧ w'.cell? (ad.add 2) = some (.int .u64 3) ∧ ad.block < w'.heap.size ∧ Below w.heap.size w w' := by
  have h := unpack_is (3 : Int) (3 : Int) (isB_new w 5 [41, 128] 2 rfl (by omega)) (by simp)
  rw [sh3] at h
  refine h.mono ?_
  rintro e w' ⟨u, v, h1, ⟨A, c, rfl, _, _, _, hl⟩, _, h3⟩
  rcases hl with hl | ⟨ad, rfl, hlt, hc⟩
  · simp at hl
  · exact ⟨ad, c, v, h1, hc 0 _ rfl, hc 1 _ rfl, hc 2 _ rfl, hlt, below_then ((Below.refl _ _).alloc (Nat.le_refl _) _) h3⟩
theorem unpack_bad (w : World) : Calls Try.prog 14 #[.slice (some ⟨w.heap.size, 0, none⟩) 2 2, .int .i64 3, .int .i64 3] (w.alloc (.cells #[.int .u8 41, .int .u8 129] 5)) fun e w' => ∃ u v, e = .returned (.tuple #[u, v, .int .i64 2]) ∧ Below w.heap.size w w' := by
  have h := unpack_is (3 : Int) (3 : Int) (isB_new w 5 [41, 129] 2 rfl (by omega)) (by simp)
  rw [sh4] at h
  exact h.mono fun e w' ⟨u, v, h1, _, _, h3⟩ => ⟨u, v, h1, below_then ((Below.refl _ _).alloc (Nat.le_refl _) _) h3⟩

set_option maxHeartbeats 1000000 in
set_option maxRecDepth 100000 in
theorem shown_any (w : World) : Calls Try.prog 7 #[] w fun e w' => e = .returned (.bool true) ∧ Below w.heap.size w w' := by
  go_enter Try.func7, Try.ntmps7
  go_wp2_with fail
  refine (pack_123 w).mono ?_
  rintro e w1 ⟨v1, rfl, hv1, hb1⟩
  have HV1 := Lib.hid hv1
  have HB1 := Lib.hid hb1
  clear hv1 hb1
  go_wp2_with fail
  refine (pack_8 w1).mono ?_
  rintro e w2 ⟨v2, rfl, hb2⟩
  have HB2 := Lib.hid hb2
  clear hb2
  go_wp2_with fail
  refine (unpack_123 w2).mono ?_
  rintro e w3 ⟨ad, c3, v3, rfl, hc0, hc1, hc2, hlt, hb3⟩
  have HB3 := Lib.hid hb3
  have HC0 := Lib.hid hc0
  have HC1 := Lib.hid hc1
  have HC2 := Lib.hid hc2
  have HLT := Lib.hid hlt
  clear hb3 hc0 hc1 hc2 hlt
  go_wp2_with fail
  refine (unpack_bad w3).mono ?_
  rintro e w4 ⟨u4, v4, rfl, hb4⟩
  have hc0 : w4.cell? ad = some (.int .u64 1) := (hb4.cell HLT.out).trans HC0.out
  have hc1 : w4.cell? ⟨ad.block, ad.off + 1, none⟩ = some (.int .u64 2) := (hb4.cell (p := ⟨ad.block, ad.off + 1, none⟩) HLT.out).trans (by simpa [Addr.add] using HC1.out)
  have hc2 : w4.cell? ⟨ad.block, ad.off + 2, none⟩ = some (.int .u64 3) := (hb4.cell (p := ⟨ad.block, ad.off + 2, none⟩) HLT.out).trans (by simpa [Addr.add] using HC2.out)
  have hcv := textB (HV1.out.below (below_then (below_then HB2.out HB3.out) hb4))
  have HB4 := Lib.hid hb4
  clear hb4
  go_wp2
  go_ret
  exact ⟨rfl, below_then (below_then (below_then HB1.out HB2.out) HB3.out) HB4.out⟩
end Go.Proofs.Ytaoadigjkmadfaa
