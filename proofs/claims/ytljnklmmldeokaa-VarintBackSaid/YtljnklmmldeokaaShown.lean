/- Contracts of what stands at the head of the statements of layer 1. -/
import Derived.Test.YtljnklmmldeokaaInt
namespace Go.Proofs.Ytljnklmmldeokaa
open Go.RowKit

theorem textB {w : World} {l : List UInt8} {v : Value} (h : IsB l v w) : (convert 22 9 v).run Try.prog w = .ok (.string ⟨l.toArray⟩) w := h.text _ _ _ Try.underlying22 Try.underlying5 Try.underlying9

theorem few_any (A : Option Addr) (n c : Nat) (w : World) (hnc : n ≤ c) (hc : (c : Int) ≤ 9223372036854775807) :
    Calls Try.prog 9 #[.slice A n c] w fun e w' => e = .returned (.slice A (min n 300) c) ∧ w = w' := by
  by_cases h : n ≤ 300
  · have h1 : ¬ (300 : Int) < (n : Int) := by omega
    rw [Nat.min_eq_left h]
    go_enter Try.func9, Try.ntmps9
    go_wp2
    go_ret
    exact ⟨rfl, rfl⟩
  · have h1 : (300 : Int) < (n : Int) := by omega
    rw [Nat.min_eq_right (by omega : 300 ≤ n)]
    go_enter Try.func9, Try.ntmps9
    go_wp2
    go_ret
    exact ⟨rfl, rfl⟩

/-- One later world behind another. -/
theorem below_then {a b c : World} (h : Below a.heap.size a b) (k : Below b.heap.size b c) : Below a.heap.size a c := h.trans (k.mono h.size)

theorem put_300 (w : World) : Calls Try.prog 10 #[.slice none 0 0, .int .u64 300] w (RetB w [172, 2]) := by
  have h := put_any none 0 0 300 [] w (by simp) rfl (by omega) Lies.nil (by omega) (by omega)
  rw [List.nil_append, show (300 : Int).toNat = 300 from rfl, vput_300] at h
  exact h
theorem put_0 (w : World) : Calls Try.prog 10 #[.slice none 0 0, .int .u64 0] w (RetB w [0]) := by
  have h := put_any none 0 0 0 [] w (by simp) rfl (by omega) Lies.nil (by omega) (by omega)
  rw [List.nil_append, show (0 : Int).toNat = 0 from rfl, vput_0] at h
  exact h
theorem take_80 (g : Nat) (w : World) (hl : Lies w (some ⟨g, 0, none⟩) ([128, 0].map bv)) : Calls Try.prog 14 #[.slice (some ⟨g, 0, none⟩) 2 2] w
    (fun e w' => e = .returned (.tuple #[.int .u64 0, .slice none 0 0, .int .i64 2]) ∧ Below w.heap.size w w') := by
  have h := take_any (some ⟨g, 0, none⟩) 2 2 [128, 0] w (by simp) rfl (by omega) (by omega) hl
  have ht : vtake [128, 0] = none := by decide
  rw [ht] at h
  exact h
theorem lies_two (w : World) (t : TypeId) : Lies (w.alloc (.cells #[bv 128, bv 0] t)) (some ⟨w.heap.size, 0, none⟩) ([128, 0].map bv) := by
  have h : Row (w.alloc (.cells #[bv 128, bv 0] t)) w.heap.size t [bv 128, bv 0] := heap_alloc_new w _
  simpa using h.lies 0

set_option maxHeartbeats 400000 in
set_option maxRecDepth 100000 in
theorem shown_any (w : World) : Calls Try.prog 8 #[] w fun e w' => e = .returned (.bool true) ∧ Below w.heap.size w w' := by
  have hz1 : vzig (-1) = 1 := by decide
  have hz2 : vzig 1 = 2 := by decide
  have hz3 : vzag 3 = -2 := by decide
  have c1 := zig_any (-1) 
  have c2 := zig_any 1
  have c3 := zag_any 3
  rw [hz1] at c1
  rw [hz2] at c2
  rw [hz3] at c3
  have C1 := Lib.hid c1
  have C2 := Lib.hid c2
  have C3 := Lib.hid c3
  have HL := Lib.hid (lies_two w 5)
  clear c1 c2 c3 hz1 hz2 hz3
  go_enter Try.func8, Try.ntmps8
  go_wp2_with fail
  refine (take_80 _ _ HL.out).mono ?_
  rintro e w1 ⟨rfl, hb1⟩
  have HB1 := Lib.hid hb1
  clear hb1
  go_wp2_with fail
  refine (put_300 _).mono ?_
  intro e w2 h2
  obtain ⟨v2, rfl, hv2, hb2⟩ := h2.isB
  have hcv2 := textB hv2
  have HB2 := Lib.hid hb2
  clear h2 hv2 hb2
  go_wp2_with fail
  refine (put_0 _).mono ?_
  intro e w3 h3
  obtain ⟨v3, rfl, hv3, hb3⟩ := h3.isB
  have hcv3 := textB hv3
  have HB3 := Lib.hid hb3
  clear h3 hv3 hb3 hcv2
  go_wp2_with fail
  refine (C1.out _ (by omega) (by omega)).mono ?_
  rintro e w4 ⟨rfl, rfl⟩
  go_wp2_with fail
  refine (C2.out _ (by omega) (by omega)).mono ?_
  rintro e w4 ⟨rfl, rfl⟩
  go_wp2_with fail
  refine (C3.out _ (by omega) (by omega)).mono ?_
  rintro e w4 ⟨rfl, rfl⟩
  go_wp2
  go_ret
  have hb0 : Below w.heap.size w (w.alloc (.cells #[bv 128, bv 0] 5)) := (Below.refl _ _).alloc (Nat.le_refl _) _
  exact ⟨rfl, below_then (below_then (below_then hb0 HB1.out) HB2.out) HB3.out⟩
end Go.Proofs.Ytljnklmmldeokaa
