
/- The contract of layer 7's reference's Take. -/

import Derived.Test.YtiapopaggpnceaaDoorERef

namespace Go.Proofs.YtiapopaggpnceaaDoor

open Go.RowKit

theorem results_tmp4 {fn : Func} {t u v x : Tmp} (h : fn.results = #[.tmp t, .tmp u, .tmp v, .tmp x]) (tmps : Array Value) (P : Program) (w : World) :
    (results fn tmps).run P w = .ok (.tuple #[tmps.getD t undef, tmps.getD u undef, tmps.getD v undef, tmps.getD x undef]) w := by
  simp [results, h]
theorem gives_not {P : Program} {o : Oper} {ρ : Operand → Value} {w : World} {R : Value → World → Prop} {t : TypeId} {x : Operand} {b : Bool} (ho : o.op = .unOp .not t x) (hx : ρ x = .bool b) (hR : R (.bool !b) w) : Gives P o ρ w R := by
  refine gives_of (v := .bool !b) (w' := w) ?_ hR
  simp [execOp, ho, hx, go_sem]

/-- A number, how often, bytes and an error that a call answers. -/
def RetT7 (w : World) (p : Int × Int × List UInt8 × Int) (e : Ending) (w' : World) : Prop :=
  ∃ v, e = .returned (.tuple #[.int .i64 p.1, .int .i64 p.2.1, v, .int .i64 p.2.2.2]) ∧ IsB p.2.2.1 v w' ∧ Below w.heap.size w w'
theorem RetT7.no {w w' : World} (hb : Below w.heap.size w w') : RetT7 w (0, 0, [], 2) (.returned (.tuple #[.int .i64 0, .int .i64 0, .slice none 0 0, .int .i64 2])) w' := ⟨_, rfl, isB_nil _, hb⟩
/-- The same, the bytes in a row of the call's own. -/
def RetT7O (w : World) (p : Int × Int × List UInt8 × Int) (e : Ending) (w' : World) : Prop :=
  ∃ v, e = .returned (.tuple #[.int .i64 p.1, .int .i64 p.2.1, v, .int .i64 p.2.2.2]) ∧ OwnB w p.2.2.1 v w' ∧ Below w.heap.size w w'
theorem RetT7O.no {w w' : World} (hb : Below w.heap.size w w') : RetT7O w (0, 0, [], 2) (.returned (.tuple #[.int .i64 0, .int .i64 0, .slice none 0 0, .int .i64 2])) w' := ⟨_, rfl, OwnB.nil _ _, hb⟩
theorem RetT7O.t7 {w w' : World} {p : Int × Int × List UInt8 × Int} {e : Ending} (h : RetT7O w p e w') : RetT7 w p e w' := by
  obtain ⟨v, h1, h2, h3⟩ := h
  exact ⟨v, h1, h2.isB, h3⟩
theorem etake_nil (s : Bool) : etake [] s = (0, 0, [], 2) := rfl
theorem etake_big {l : List UInt8} {s : Bool} (h0 : 0 < l.length) (h : 64 ≤ l[0].toNat) : etake l s = (0, 0, [], 2) := by
  cases l with
  | nil => simp at h0
  | cons b r => simp at h; unfold etake; simp only []; rw [if_pos h]
theorem etake_short {l : List UInt8} {s : Bool} {K : Nat} (h0 : 0 < l.length) (hK : K = l[0].toNat / 8 + 1) (h : l.length < K + 1) : etake l s = (0, 0, [], 2) := by
  cases l with
  | nil => simp at h0
  | cons b r =>
    simp at hK h
    unfold etake; simp only []
    rw [← hK]
    split
    · rfl
    · first | rfl | rw [if_pos (by omega)]
theorem etake_none {l : List UInt8} {s : Bool} {K u : Nat} (h0 : 0 < l.length) (hK : K = l[0].toNat / 8 + 1) (hu : u = bval ((l.drop 1).take K)) (h : emade u s = none ∨ ebytes u ≠ K) : etake l s = (0, 0, [], 2) := by
  cases l with
  | nil => simp at h0
  | cons b r =>
    simp at hK hu
    unfold etake; simp only []
    rw [← hK, ← hu]
    split
    · rfl
    split
    · rfl
    split
    · rfl
    · rename_i h3
      rcases h with h | h
      · rw [h]
      · exact absurd h h3
theorem etake_some {l : List UInt8} {s : Bool} {K u : Nat} {x : Int} (h0 : 0 < l.length) (hK : K = l[0].toNat / 8 + 1) (h64 : l[0].toNat < 64) (hl : K + 1 ≤ l.length) (hu : u = bval ((l.drop 1).take K)) (h : emade u s = some x) (hb : ebytes u = K) :
    etake l s = (x, ((l[0].toNat % 8 + 3 : Nat) : Int), l.drop (K + 1), 0) := by
  cases l with
  | nil => simp at h0
  | cons b r =>
    simp at hK hu hl h64
    unfold etake; simp only []
    rw [← hK, ← hu, if_neg (by omega), if_neg (by omega), if_neg (by omega), h]
    simp
theorem elay_same {l : List UInt8} {K u T : Nat} (h0 : 0 < l.length) (hK : K = l[0].toNat / 8 + 1) (hT : T = l[0].toNat % 8 + 3) (hl : K + 1 ≤ l.length) (hu : u = bval ((l.drop 1).take K)) : elay u T = l.take (K + 1) ↔ ebytes u = K := by
  cases l with
  | nil => simp at h0
  | cons b r =>
    simp at hK hu hl hT
    rw [List.take_succ_cons]
    constructor
    · intro h
      have h1 := congrArg List.length h
      rw [elay_len, List.length_cons, List.length_take] at h1
      omega
    · intro h
      unfold elay
      rw [h, show 8 * (K - 1) + (T - 3) = b.toNat by omega, UInt8.ofNat_toNat]
      congr 1
      exact (eq_be (by rw [List.length_take]; omega) hu.symm).symm
theorem bval_at (r : List UInt8) (k : Nat) (h : k < r.length) : bval (r.take (k + 1)) = 256 * bval (r.take k) + r[k].toNat := by
  rw [List.take_succ_eq_append_getElem h, bval_append]
  simp [bval]
  omega
theorem bval_seven (r : List UInt8) {k : Nat} (h : k ≤ 7) : ((bval (r.take k) : Nat) : Int) < 72057594037927936 := by
  have h1 := bval_lt (r.take k)
  have h2 : 256 ^ (r.take k).length ≤ 256 ^ 7 := Nat.pow_le_pow_right (by omega) (by rw [List.length_take]; omega)
  omega
theorem bval_eight (r : List UInt8) {k : Nat} (h : k ≤ 8) : bval (r.take k) < 2 ^ 64 := by
  have h1 := bval_lt (r.take k)
  have h2 : 256 ^ (r.take k).length ≤ 256 ^ 8 := Nat.pow_le_pow_right (by omega) (by rw [List.length_take]; omega)
  omega
def RTake7Rel (r : List UInt8) (K : Nat) (v i : Value) : Prop := ∃ (k : Nat) (U : Int), k ≤ K ∧ i = .int .i64 (k : Int) ∧ v = .int .u64 U ∧ U = ((bval (r.take k) : Nat) : Int)
end Go.Proofs.YtiapopaggpnceaaDoor
