
/- The contract of what stands at the head of the statements of layer 12. -/

import Derived.Test.YtljepanilfbjgaaKIs

namespace Go.Proofs.Ytljepanilfbjgaa

open Go.RowKit

theorem gives_booleq {P : Program} {o : Oper} {ρ : Operand → Value} {w : World} {R : Value → World → Prop} {t t' : TypeId} {x y : Operand} {a b : Bool} (ho : o.op = .binOp .eql t x y t') (hx : ρ x = .bool a) (hy : ρ y = .bool b) (hb : ∀ W, (binOp .eql t (.bool a) (.bool b)).run P W = .ok (.bool (a == b)) W) (hR : R (.bool (a == b)) w) : Gives P o ρ w R := by
  refine gives_of (v := .bool (a == b)) (w' := w) ?_ hR
  simp [execOp, ho, hx, hy, go_sem, eqGuard, hb]
theorem beq_run (a b : Bool) (W : World) : (binOp .eql 4 (.bool a) (.bool b)).run Try.prog W = .ok (.bool (a == b)) W := by cases a <;> cases b <;> kernel_rfl
def cvB (b : Bool) (n : Int) (l : List UInt8) : CV := ⟨b, n, ⟨l.toArray⟩⟩
theorem cvB_in (b : Bool) (n : Int) (l : List UInt8) (h : -9223372036854775808 ≤ n ∧ n ≤ 9223372036854775807) : (cvB b n l).inInt := h
theorem ks1 : kmay 1 (cvB false 2 []) = false := by decide +kernel
theorem ks2 : kmay 6 (cvB false 0 [195, 169]) = true := by decide +kernel
theorem ks3 : kmay 6 (cvB false 0 [255]) = false := by decide +kernel
theorem ks4 : kmay 7 (cvB false 0 [255]) = true := by decide +kernel
theorem ks5 : kcmp (cvB true 0 []) (cvB false 0 []) = -1 := by decide +kernel
theorem ks6 : kcmp (cvB false 3 []) (cvB false (-1) []) = 1 := by decide +kernel
theorem kmay_lit (k : Int) (b : Bool) (n : Int) (l : List UInt8) (t : Bool) (w : World) (hk : -9223372036854775808 ≤ k ∧ k ≤ 9223372036854775807) (hn : -9223372036854775808 ≤ n ∧ n ≤ 9223372036854775807) (hl : l.length ≤ maxLen) (ht : kmay k (cvB b n l) = t) :
    Calls Try.prog 9 #[.int .i64 k, .agg #[.bool b, .int .i64 n, .string ⟨l.toArray⟩]] w fun e w' => e = .returned (.bool t) ∧ Below w.heap.size w w' := by
  have h := kmay_any k (cvB b n l) w hk hn (by simpa [cvB, ByteArray.size] using hl)
  rw [ht] at h
  exact h
theorem kcmp_lit (b b' : Bool) (n n' : Int) (t : Int) (w : World) (hn : -9223372036854775808 ≤ n ∧ n ≤ 9223372036854775807) (hn' : -9223372036854775808 ≤ n' ∧ n' ≤ 9223372036854775807) (ht : kcmp (cvB b n []) (cvB b' n' []) = t) :
    Calls Try.prog 6 #[.agg #[.bool b, .int .i64 n, .string ⟨#[]⟩], .agg #[.bool b', .int .i64 n', .string ⟨#[]⟩]] w fun e w' => e = .returned (.int .i64 t) ∧ Below w.heap.size w w' := by
  have h := kcmp_any (cvB b n []) (cvB b' n' []) w hn hn' (by simp [cvB, ByteArray.size]) (by simp [cvB, ByteArray.size])
  rw [ht] at h
  exact h
set_option maxHeartbeats 1000000 in
set_option maxRecDepth 100000 in
theorem shown_any (w : World) : Calls Try.prog 5 #[] w fun e w' => e = .returned (.bool true) ∧ Below w.heap.size w w' := by
  have H1 := Lib.hid (fun W => kmay_lit 1 false 2 [] _ W (by omega) (by omega) (by simp) ks1)
  have H2 := Lib.hid (fun W => kmay_lit 6 false 0 [195, 169] _ W (by omega) (by omega) (by simp [maxLen]) ks2)
  have H3 := Lib.hid (fun W => kmay_lit 6 false 0 [255] _ W (by omega) (by omega) (by simp [maxLen]) ks3)
  have H4 := Lib.hid (fun W => kmay_lit 7 false 0 [255] _ W (by omega) (by omega) (by simp [maxLen]) ks4)
  have H5 := Lib.hid (fun W => kcmp_lit true false 0 0 _ W (by omega) (by omega) ks5)
  have H6 := Lib.hid (fun W => kcmp_lit false false 3 (-1) _ W (by omega) (by omega) ks6)
  go_enter Try.func5, Try.ntmps5
  go_wp2_with fail
  refine (H1.out _).mono ?_
  rintro e w1 ⟨rfl, hb1⟩
  go_wp2_with fail
  refine (H2.out _).mono ?_
  rintro e w2 ⟨rfl, hb2⟩
  go_wp2_with fail
  refine (H3.out _).mono ?_
  rintro e w3 ⟨rfl, hb3⟩
  go_wp2_with fail
  refine (H4.out _).mono ?_
  rintro e w4 ⟨rfl, hb4⟩
  go_wp2_with fail
  refine (H5.out _).mono ?_
  rintro e w5 ⟨rfl, hb5⟩
  go_wp2_with fail
  refine (H6.out _).mono ?_
  rintro e w6 ⟨rfl, hb6⟩
  go_wp2
  go_ret
  exact ⟨rfl, below_then (below_then (below_then (below_then (below_then hb1 hb2) hb3) hb4) hb5) hb6⟩
end Go.Proofs.Ytljepanilfbjgaa
