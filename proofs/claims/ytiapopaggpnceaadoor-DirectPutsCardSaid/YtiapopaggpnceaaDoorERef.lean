
/- Contracts of layer 7's reference: Plain, Made, Put. -/

import Derived.Test.YtiapopaggpnceaaDoorEPlain

import Derived.Test.YtiapopaggpnceaaDoorLeaf

import Derived.Test.YtiapopaggpnceaaDoorWMost

namespace Go.Proofs.YtiapopaggpnceaaDoor

open Go.RowKit

theorem rplain7_any (x : Int) (s : Bool) (w : World) (h0 : -9223372036854775808 ≤ x) (h1 : x ≤ 9223372036854775807) :
    Calls Tryd.prog 28 #[.int .i64 x, .bool s] w fun e w' => e = .returned (.tuple #[.int .u64 (((eplain x s).getD 0 : Nat) : Int), .bool (eplain x s).isSome]) ∧ w = w' := by
  cases s with
  | true =>
    have hE := Lib.hid (show eplain x true = some (vzig x).toNat by unfold eplain; rw [if_pos rfl])
    have hb := Lib.hid (vzig_bd h0 h1)
    go_enter Tryd.func28, Tryd.ntmps28
    go_wp2_with (go_at_call 42; refine (rzig_any x _ h0 h1).mono ?_; rintro e w' ⟨rfl, rfl⟩)
    go_ret2
    rw [hE.out]
    exact ⟨by rw [Option.getD_some, Option.isSome_some, Int.toNat_of_nonneg hb.out.1]; rfl, rfl⟩
  | false =>
    by_cases hx : 0 ≤ x
    · have hE := Lib.hid (show eplain x false = some x.toNat by unfold eplain; rw [if_neg (by simp), if_pos hx])
      have d : decide (0 ≤ x) = true := decide_eq_true hx
      have hm : ∀ (ts : Array TypeId) (t : TypeId) (W : World), (Builtin.max_ ts t #[.int .i64 x, .int .i64 0]).run Tryd.prog W = .ok (.int .i64 x) W := fun ts t W => by
        rw [run_max_int2]
        congr 2
        split <;> omega
      go_enter Tryd.func28, Tryd.ntmps28
      go_wp2
      go_ret2
      rw [hE.out]
      exact ⟨by rw [Option.getD_some, Option.isSome_some, Int.toNat_of_nonneg hx]; rfl, rfl⟩
    · have hE := Lib.hid (show eplain x false = none by unfold eplain; rw [if_neg (by simp), if_neg hx])
      have d : decide (0 ≤ x) = false := decide_eq_false hx
      have hm : ∀ (ts : Array TypeId) (t : TypeId) (W : World), (Builtin.max_ ts t #[.int .i64 x, .int .i64 0]).run Tryd.prog W = .ok (.int .i64 0) W := fun ts t W => by
        rw [run_max_int2]
        congr 2
        split <;> omega
      go_enter Tryd.func28, Tryd.ntmps28
      go_wp2
      go_ret2
      rw [hE.out]
      exact ⟨rfl, rfl⟩
theorem emade_true (u : Nat) : emade u true = some (vzag (u : Int)) := by unfold emade; rw [if_pos rfl]
theorem emade_low {U : Int} (h0 : 0 ≤ U) (h : U < 9223372036854775808) : emade U.toNat false = some U := by unfold emade; rw [if_neg (by simp), if_pos (by omega), Int.toNat_of_nonneg h0]
theorem emade_high {U : Int} (h : 9223372036854775808 ≤ U) : emade U.toNat false = none := by unfold emade; rw [if_neg (by simp), if_neg (by omega)]
theorem rmade7_any (U : Int) (s : Bool) (w : World) (h0 : 0 ≤ U) (h1 : U < 18446744073709551616) :
    Calls Tryd.prog 30 #[.int .u64 U, .bool s] w fun e w' => e = .returned (.tuple #[.int .i64 ((emade U.toNat s).getD 0), .bool (emade U.toNat s).isSome]) ∧ w = w' := by
  cases s with
  | true =>
    have hE := Lib.hid (emade_true U.toNat)
    go_enter Tryd.func30, Tryd.ntmps30
    go_wp2_with (go_at_call 43; refine (rzag_any U _ h0 h1).mono ?_; rintro e w' ⟨rfl, rfl⟩)
    go_ret2
    rw [hE.out, Int.toNat_of_nonneg h0]
    exact ⟨rfl, rfl⟩
  | false =>
    by_cases hx : U < 9223372036854775808
    · have hE := Lib.hid (emade_low h0 hx)
      have hd : ¬ (9223372036854775808 : Int) ≤ U := by omega
      go_enter Tryd.func30, Tryd.ntmps30
      go_wp2
      go_ret2
      rw [hE.out]
      exact ⟨rfl, rfl⟩
    · have hE := Lib.hid (emade_high (U := U) (by omega))
      have hd : (9223372036854775808 : Int) ≤ U := by omega
      go_enter Tryd.func30, Tryd.ntmps30
      go_wp2
      go_ret2
      rw [hE.out]
      exact ⟨rfl, rfl⟩
theorem bv_low7 {y : Nat} (h : y < 256) : Value.int .u8 (y : Int) = bv (UInt8.ofNat y) := by unfold bv; congr 1; simp; omega
theorem own_one (w : World) (e : TypeId) (u : Value) {base : Nat} (hb : base ≤ w.heap.size) : (w.alloc (.cells #[u] e)).ownsRow base e 1 (.slice (some ⟨w.heap.size, 0, none⟩) 1 1) 1 [u] :=
  ⟨by simp, .inr ⟨w.heap.size, 1, #[u], rfl, hb, heap_alloc_new w _, Nat.le_refl _, by unfold maxLen; omega, by simp, by simp⟩⟩
theorem eput_times {x t : Int} {s : Bool} (h : t < 3 ∨ 10 < t) : eput x t s = ([], 1) := by unfold eput; rw [if_pos h]
theorem eput_not {x t : Int} {s : Bool} (h : eplain x s = none) : eput x t s = ([], 1) := by unfold eput; split <;> simp [h]
theorem eput_ok {x : Int} {t u : Nat} {s : Bool} (h3 : 3 ≤ t) (h10 : t ≤ 10) (h : eplain x s = some u) : eput x t s = (elay u t, 0) := by
  unfold eput
  rw [if_neg (by omega), h, Int.toNat_natCast]
def RPut7Rel (l : List UInt8) (n u : Nat) (w : World) (v i : Value) (wr : World) : Prop :=
  ∃ (k : Nat) (m : List UInt8), k ≤ n ∧ i = .int .i64 ((k : Int) - 1) ∧ m ++ be k u = l ∧ wr.ownsRow w.heap.size 5 1 v m.length (m.map bv) ∧ Below w.heap.size w wr
end Go.Proofs.YtiapopaggpnceaaDoor
