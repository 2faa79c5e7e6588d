
/- The statement WireValues: for any value, any kind, and anything known the law answers true. No condition. Written by gen_wire_laws2.py. -/

import Derived.Test.YtocodcceimeiiaaDoorG6
namespace Go.Proofs.YtocodcceimeiiaaDoor

open Go.RowKit Go.ChangeShapes Go.WideShapes Go.ChangeAt

set_option maxRecDepth 100000 in
theorem gives_eqVF {o : Oper} {ρ : Operand → Value} {w : World} {R : Value → World → Prop} {x y : Operand} {G : CV} (ho : o.op = .binOp .eql 32 x y 32) (hx : ρ x = cv G) (hy : ρ y = cv G) (hR : R (.bool true) w) : Gives Tryd.prog o ρ w R := by
  refine gives_of (v := .bool true) (w' := w) ?_ hR
  simp [execOp, ho, hx, hy, eqV_guard G G x y w, eqV_run G w]
theorem gives_eqSF {o : Oper} {ρ : Operand → Value} {w : World} {R : Value → World → Prop} {x y : Operand} {G : GS} (ho : o.op = .binOp .eql 36 x y 36) (hx : ρ x = gsv G) (hy : ρ y = gsv G) (hR : R (.bool true) w) : Gives Tryd.prog o ρ w R := by
  refine gives_of (v := .bool true) (w' := w) ?_ hR
  simp [execOp, ho, hx, hy, eqS_guard G G x y w, eqS_run G w]
theorem fputG_few {s : GS} (hi : s.inInt) (h1 : s.min.s.size ≤ 300) (h2 : s.max.s.size ≤ 300) : (fputG s).length ≤ 2000 := by
  obtain ⟨_, _, i1, i2, i3, i4⟩ := hi
  have hv1 := fputV_len i1 (by omega)
  have hv2 := fputV_len i2 (by omega)
  have hz := vzig_bd i3 i4
  have a1 := fput1_len_num (t := 1) (n := u64n s.count) (by omega) (u64n_lt _)
  have a2 := fput1_len_num (t := 2) (n := fbit s.has) (by omega) (fbit_lt _)
  have a3 := fput1_len_byt (t := 3) (b := fputV s.min) (by omega) (by omega)
  have a4 := fput1_len_byt (t := 4) (b := fputV s.max) (by omega) (by omega)
  have a5 := fput1_len_num (t := 5) (n := (vzig s.sum).toNat) (by omega) (by omega)
  have a6 := fput1_len_num (t := 6) (n := fbit s.over) (by omega) (fbit_lt _)
  unfold fputG fstats
  simp only [List.flatMap_cons, List.flatMap_nil, List.append_nil, List.length_append]
  omega
theorem valV (xb : Bool) (xn : Int) (ys : ByteArray) (hi : (⟨xb, xn, ys⟩ : CV).inInt) (hs : ys.size ≤ 300) : (∀ W, Calls Tryd.prog 13 #[(.agg #[.bool xb, .int .i64 xn, .string ys])] W fun e w' => (∃ u, e = .returned u ∧ IsB (fputV (⟨xb, xn, ys⟩ : CV)) u w') ∧ Below W.heap.size W w') ∧ (∀ W, Calls Tryd.prog 16 #[(.agg #[.bool xb, .int .i64 xn, .string ys])] W fun e w' => (∃ u, e = .returned u ∧ IsB (fputV (⟨xb, xn, ys⟩ : CV)) u w') ∧ Below W.heap.size W w') ∧
    (∀ (v : Value) (W : World), IsB (fputV (⟨xb, xn, ys⟩ : CV)) v W → Calls Tryd.prog 8 #[v] W fun e w' => e = .returned (.tuple #[(.agg #[.bool xb, .int .i64 xn, .string ys]), .int .i64 0]) ∧ Below W.heap.size W w') := by
  refine ⟨fun W => (fputV_own (⟨xb, xn, ys⟩ : CV) W hi (by show ys.size ≤ 4000; omega)).mono fun e w' ⟨u, h1, h2, h3⟩ => ⟨⟨u, h1, isB_own h2⟩, h3⟩, fun W => (rputV_any (⟨xb, xn, ys⟩ : CV) W hi (by show ys.size ≤ 3000; omega)).mono fun e w' ⟨u, h1, h2, h3⟩ => ⟨⟨u, h1, h2⟩, h3⟩, fun v W h => ?_⟩
  have hl := fputV_len hi (show (⟨xb, xn, ys⟩ : CV).s.size < 18446744073709551616 by show ys.size < _; omega)
  have hc := ftakeV_own (fputV (⟨xb, xn, ys⟩ : CV)) v W h (by have : (⟨xb, xn, ys⟩ : CV).s.size = ys.size := rfl; omega)
  rw [ftakeV_put hi (by show ys.size < _; omega)] at hc
  exact hc
theorem valS (k : Int) (gc : Int) (gh lb : Bool) (ln : Int) (ks : ByteArray) (mb : Bool) (mn : Int) (js : ByteArray) (gs : Int) (go : Bool) (hi : (⟨gc, gh, ⟨lb, ln, ks⟩, ⟨mb, mn, js⟩, gs, go⟩ : GS).inInt) (h1 : ks.size ≤ 300) (h2 : js.size ≤ 300) :
    ∃ (may : Bool) (tc : Int) (th pb : Bool) (pn : Int) (ps : ByteArray) (qb : Bool) (qn : Int) (qs : ByteArray) (ts : Int) (to_ : Bool) (y : Int), (∀ W, Calls Tryd.prog 14 #[(.agg #[.int .i64 gc, .bool gh, .bool lb, .int .i64 ln, .string ks, .bool mb, .int .i64 mn, .string js, .int .i64 gs, .bool go])] W fun e w' => (∃ u, e = .returned u ∧ IsB (fputG (⟨gc, gh, ⟨lb, ln, ks⟩, ⟨mb, mn, js⟩, gs, go⟩ : GS)) u w') ∧ Below W.heap.size W w') ∧ (∀ W, Calls Tryd.prog 17 #[(.agg #[.int .i64 gc, .bool gh, .bool lb, .int .i64 ln, .string ks, .bool mb, .int .i64 mn, .string js, .int .i64 gs, .bool go])] W fun e w' => (∃ u, e = .returned u ∧ IsB (fputG (⟨gc, gh, ⟨lb, ln, ks⟩, ⟨mb, mn, js⟩, gs, go⟩ : GS)) u w') ∧ Below W.heap.size W w') ∧
    (∀ (v : Value) (W : World), IsB (fputG (⟨gc, gh, ⟨lb, ln, ks⟩, ⟨mb, mn, js⟩, gs, go⟩ : GS)) v W → Calls Tryd.prog 10 #[.int .i64 k, v] W fun e w' => e = .returned (.tuple #[(.agg #[.int .i64 tc, .bool th, .bool pb, .int .i64 pn, .string ps, .bool qb, .int .i64 qn, .string qs, .int .i64 ts, .bool to_]), .int .i64 y]) ∧ Below W.heap.size W w') ∧
    (∀ W, Tryd.U8 W → Calls Tryd.prog 15 #[.int .i64 k, (.agg #[.int .i64 gc, .bool gh, .bool lb, .int .i64 ln, .string ks, .bool mb, .int .i64 mn, .string js, .int .i64 gs, .bool go])] W fun e w' => e = .returned (.bool may) ∧ Below W.heap.size W w') ∧
    (may = true → gc = tc ∧ gh = th ∧ lb = pb ∧ ln = pn ∧ ks = ps ∧ mb = qb ∧ mn = qn ∧ js = qs ∧ gs = ts ∧ go = to_ ∧ y = 0) ∧ (may = false → y = 2) := by
  have hp := fputG_few hi h1 h2
  have hg := ftakeG_put (k := k) hi (show ks.size < _ by omega) (show js.size < _ by omega)
  have c1 := fun W => (fputG_own (⟨gc, gh, ⟨lb, ln, ks⟩, ⟨mb, mn, js⟩, gs, go⟩ : GS) W hi (by show ks.size ≤ 3000; omega) (by show js.size ≤ 3000; omega)).mono fun e w' (hh : RetOwn W (fputG (⟨gc, gh, ⟨lb, ln, ks⟩, ⟨mb, mn, js⟩, gs, go⟩ : GS)) e w') => (show (∃ u, e = .returned u ∧ IsB (fputG (⟨gc, gh, ⟨lb, ln, ks⟩, ⟨mb, mn, js⟩, gs, go⟩ : GS)) u w') ∧ Below W.heap.size W w' from ⟨⟨_, hh.choose_spec.1, isB_own hh.choose_spec.2.1⟩, hh.choose_spec.2.2⟩)
  have c2 := fun W => (rputG_any (⟨gc, gh, ⟨lb, ln, ks⟩, ⟨mb, mn, js⟩, gs, go⟩ : GS) W hi (by show ks.size ≤ 3000; omega) (by show js.size ≤ 3000; omega)).mono fun e w' (hh : ∃ u, e = .returned u ∧ IsB (fputG (⟨gc, gh, ⟨lb, ln, ks⟩, ⟨mb, mn, js⟩, gs, go⟩ : GS)) u w' ∧ Below W.heap.size W w') => (show (∃ u, e = .returned u ∧ IsB (fputG (⟨gc, gh, ⟨lb, ln, ks⟩, ⟨mb, mn, js⟩, gs, go⟩ : GS)) u w') ∧ Below W.heap.size W w' from ⟨⟨_, hh.choose_spec.1, hh.choose_spec.2.1⟩, hh.choose_spec.2.2⟩)
  have c4 := fun W hU => rmay17_any k (⟨gc, gh, ⟨lb, ln, ks⟩, ⟨mb, mn, js⟩, gs, go⟩ : GS) W hU (by show ks.size ≤ maxLen; unfold maxLen; omega) (by show js.size ≤ maxLen; unfold maxLen; omega)
  have c3 := fun v W h => ftakeG_own k (fputG (⟨gc, gh, ⟨lb, ln, ks⟩, ⟨mb, mn, js⟩, gs, go⟩ : GS)) v W h (by omega)
  rw [hg] at c3
  cases hm : gmayE k (⟨gc, gh, ⟨lb, ln, ks⟩, ⟨mb, mn, js⟩, gs, go⟩ : GS) with
  | true =>
    rw [hm] at c3 c4
    exact ⟨true, gc, gh, lb, ln, ks, mb, mn, js, gs, go, 0, c1, c2, c3, c4, fun _ => ⟨rfl, rfl, rfl, rfl, rfl, rfl, rfl, rfl, rfl, rfl, rfl⟩, fun h => by cases h⟩
  | false =>
    rw [hm] at c3 c4
    exact ⟨false, 0, false, false, 0, ⟨#[]⟩, false, 0, ⟨#[]⟩, 0, false, 2, c1, c2, c3, c4, fun h => (by cases h), fun _ => rfl⟩
theorem six_ways {a b c g : Prop} (h1 : a → b → g) (h2 : a → ¬b → c → g) (h3 : a → ¬b → ¬c → g) (h4 : ¬a → b → g) (h5 : ¬a → ¬b → c → g) (h6 : ¬a → ¬b → ¬c → g) : g := by
  by_cases ha : a <;> by_cases hb : b
  · exact h1 ha hb
  · by_cases hc : c
    · exact h2 ha hb hc
    · exact h3 ha hb hc
  · exact h4 ha hb
  · by_cases hc : c
    · exact h5 ha hb hc
    · exact h6 ha hb hc
set_option maxHeartbeats 8000000 in
set_option maxRecDepth 100000 in
theorem WireValues_walk (w : World) (hU : Tryd.U8 w) (X0 : CV) (hi0 : X0.inInt) (hs0 : X0.s.size ≤ maxLen) (k : Int) (_hk0 : -9223372036854775808 ≤ k) (_hk1 : k ≤ 9223372036854775807) (S0 : GS) (hS0 : S0.inInt) (hm0 : S0.min.s.size ≤ maxLen) (hx0 : S0.max.s.size ≤ maxLen) :
    Calls Tryd.prog 4 #[cv X0, .int .i64 k, gsv S0] w fun e w' => e = .returned (.bool true) ∧ Below w.heap.size w w' := by
  obtain ⟨xb, xn, xs⟩ := X0
  obtain ⟨gc, gh, ⟨lb, ln, ls⟩, ⟨mb, mn, ms⟩, gs, go⟩ := S0
  have HU0 := Lib.hid hU
  have HU := Lib.hid hU
  have HIX := Lib.hid (fun (ys : ByteArray) => show (⟨xb, xn, ys⟩ : CV).inInt from hi0)
  have HIS := Lib.hid (fun (ks js : ByteArray) => show (⟨gc, gh, ⟨lb, ln, ks⟩, ⟨mb, mn, js⟩, gs, go⟩ : GS).inInt from hS0)
  dsimp only at hs0 hm0 hx0
  unfold cv gsv gcells
  dsimp only
  clear hU hi0 hS0
  have HRV0 := Lib.hid (show Row ((w.alloc (.cells #[.bool xb, .int .i64 xn, .string xs] 32)).alloc (.cells #[.int .i64 gc, .bool gh, .bool lb, .int .i64 ln, .string ls, .bool mb, .int .i64 mn, .string ms, .int .i64 gs, .bool go] 36)) (w.heap.size) 32 [.bool xb, .int .i64 xn, .string xs] from (show Row (w.alloc (.cells #[.bool xb, .int .i64 xn, .string xs] 32)) (w.heap.size) 32 [.bool xb, .int .i64 xn, .string xs] from heap_alloc_new w _).alloc _)
  have HRS0 := Lib.hid (show Row ((w.alloc (.cells #[.bool xb, .int .i64 xn, .string xs] 32)).alloc (.cells #[.int .i64 gc, .bool gh, .bool lb, .int .i64 ln, .string ls, .bool mb, .int .i64 mn, .string ms, .int .i64 gs, .bool go] 36)) (w.heap.size + 1) 36 [.int .i64 gc, .bool gh, .bool lb, .int .i64 ln, .string ls, .bool mb, .int .i64 mn, .string ms, .int .i64 gs, .bool go] by
    have h := heap_alloc_new (w.alloc (.cells #[.bool xb, .int .i64 xn, .string xs] 32)) (.cells #[.int .i64 gc, .bool gh, .bool lb, .int .i64 ln, .string ls, .bool mb, .int .i64 mn, .string ms, .int .i64 gs, .bool go] 36)
    rwa [show (w.alloc (.cells #[.bool xb, .int .i64 xn, .string xs] 32)).heap.size = w.heap.size + 1 by simp] at h)
  have HB0 := Lib.hid (show Below w.heap.size w ((w.alloc (.cells #[.bool xb, .int .i64 xn, .string xs] 32)).alloc (.cells #[.int .i64 gc, .bool gh, .bool lb, .int .i64 ln, .string ls, .bool mb, .int .i64 mn, .string ms, .int .i64 gs, .bool go] 36)) from ((Below.refl _ _).alloc (Nat.le_refl _) _).alloc (by simp) _)
  refine six_ways (a := 300 < xs.size) (b := 300 < ls.size) (c := 300 < ms.size) ?h1 ?h2 ?h3 ?h4 ?h5 ?h6
  case' h1 =>
    intro q1 q2
    have r1 : (300 : Int) < (xs.size : Int) := by omega
    have r0 : (300 : Int) ≤ (xs.size : Int) := by omega
    have r2 : (300 : Int) < (ls.size : Int) := by omega
    have Q1 := Lib.hid q1
    have Q2 := Lib.hid q2
    clear q1 q2
    go_enter Tryd.func4, Tryd.ntmps4
    go_wp2_with fail
    refine (shown19_any _).mono ?_
    rintro e w1 ⟨rfl, hb⟩
    have hrv := HRV0.out.below hb HRV0.out.lt
    have hrs := HRS0.out.below hb HRS0.out.lt
    have hbb := below_then HB0.out hb
    have HU := Lib.hid (Utf8Tabs_below HU.out hbb)
    have c0 : w1.cell? ⟨w.heap.size, 0, none⟩ = some (.bool xb) := hrv.cell 0
    have c1 : w1.cell? ⟨w.heap.size, 1, none⟩ = some (.int .i64 xn) := hrv.cell 1
    have c2 : w1.cell? ⟨w.heap.size, 2, none⟩ = some (.string xs) := hrv.cell 2
    have d0 : w1.cell? ⟨w.heap.size + 1, 0, none⟩ = some (.int .i64 gc) := hrs.cell 0
    have d1 : w1.cell? ⟨w.heap.size + 1, 1, none⟩ = some (.bool gh) := hrs.cell 1
    have d2 : w1.cell? ⟨w.heap.size + 1, 2, none⟩ = some (.bool lb) := hrs.cell 2
    have d3 : w1.cell? ⟨w.heap.size + 1, 3, none⟩ = some (.int .i64 ln) := hrs.cell 3
    have d4 : w1.cell? ⟨w.heap.size + 1, 4, none⟩ = some (.string ls) := hrs.cell 4
    have d5 : w1.cell? ⟨w.heap.size + 1, 5, none⟩ = some (.bool mb) := hrs.cell 5
    have d6 : w1.cell? ⟨w.heap.size + 1, 6, none⟩ = some (.int .i64 mn) := hrs.cell 6
    have d7 : w1.cell? ⟨w.heap.size + 1, 7, none⟩ = some (.string ms) := hrs.cell 7
    have d8 : w1.cell? ⟨w.heap.size + 1, 8, none⟩ = some (.int .i64 gs) := hrs.cell 8
    have d9 : w1.cell? ⟨w.heap.size + 1, 9, none⟩ = some (.bool go) := hrs.cell 9
    have f2 : w1.frozen? ⟨w.heap.size, 2, none⟩ = false := hrv.free 2
    have f4 : w1.frozen? ⟨w.heap.size + 1, 4, none⟩ = false := hrs.free 4
    have f7 : w1.frozen? ⟨w.heap.size + 1, 7, none⟩ = false := hrs.free 7
    have HV1 := Lib.hid hrv
    have HS1 := Lib.hid hrs
    have HB1 := Lib.hid hbb
    clear hrv hrs hbb hb
    go_wp2_with fail
    obtain ⟨ys, hys⟩ : ∃ y, y = xs.extract 0 300 := ⟨_, rfl⟩
    rw [← hys]
    obtain ⟨ks, hks⟩ : ∃ y : ByteArray, y = ⟨#[]⟩ := ⟨_, rfl⟩
    obtain ⟨js, hjs⟩ : ∃ y : ByteArray, y = ⟨#[]⟩ := ⟨_, rfl⟩
    obtain ⟨w2, hw2⟩ : ∃ y, y = (((w1.setCell ⟨w.heap.size, 2, none⟩ (.string ys)).setCell ⟨w.heap.size + 1, 4, none⟩ (.string ⟨#[]⟩)).setCell ⟨w.heap.size + 1, 7, none⟩ (.string ⟨#[]⟩)) := ⟨_, rfl⟩
    rw [← hw2]
    have HRV := Lib.hid (show Row w2 (w.heap.size) 32 [.bool xb, .int .i64 xn, .string ys] by rw [hw2]; exact (((HV1.out.set_ 2 (.string ys)).far (p := ⟨w.heap.size + 1, 4, none⟩) (show w.heap.size ≠ w.heap.size + 1 by omega) (.string ⟨#[]⟩)).far (p := ⟨w.heap.size + 1, 7, none⟩) (show w.heap.size ≠ w.heap.size + 1 by omega) (.string ⟨#[]⟩)))
    have HRS := Lib.hid (show Row w2 (w.heap.size + 1) 36 [.int .i64 gc, .bool gh, .bool lb, .int .i64 ln, .string ks, .bool mb, .int .i64 mn, .string js, .int .i64 gs, .bool go] by rw [hw2, hks, hjs]; exact (((HS1.out.far (p := ⟨w.heap.size, 2, none⟩) (show w.heap.size + 1 ≠ w.heap.size by omega) (.string ys)).set_ 4 (.string ⟨#[]⟩)).set_ 7 (.string ⟨#[]⟩)))
    have HB := Lib.hid (show Below w.heap.size w w2 by rw [hw2]; exact (((HB1.out.setCell (p := ⟨w.heap.size, 2, none⟩) (Nat.le_refl _) _).setCell (p := ⟨w.heap.size + 1, 4, none⟩) (Nat.le_succ _) _).setCell (p := ⟨w.heap.size + 1, 7, none⟩) (Nat.le_succ _) _))
    have HYS := Lib.hid (show ys.size ≤ 300 by rw [hys]; rw [ByteArray.size_extract]; omega)
    have HKS := Lib.hid (show ks.size ≤ 300 by rw [hks]; exact Nat.zero_le _)
    have HJS := Lib.hid (show js.size ≤ 300 by rw [hjs]; exact Nat.zero_le _)
    have HU := Lib.hid (Utf8Tabs_below HU0.out HB.out)
    clear Q1 Q2 r1 r2 r0 hw2 hys hks hjs HV1 HS1 HB1 f2 f4 f7 c0 c1 c2 d0 d1 d2 d3 d4 d5 d6 d7 d8 d9
  case' h2 =>
    intro q1 q2 q3
    have r1 : (300 : Int) < (xs.size : Int) := by omega
    have r0 : (300 : Int) ≤ (xs.size : Int) := by omega
    have r2 : decide ((300 : Int) < (ls.size : Int)) = false := decide_eq_false (by omega)
    have r3 : (300 : Int) < (ms.size : Int) := by omega
    have Q1 := Lib.hid q1
    have Q2 := Lib.hid q2
    have Q3 := Lib.hid q3
    clear q1 q2 q3
    go_enter Tryd.func4, Tryd.ntmps4
    go_wp2_with fail
    refine (shown19_any _).mono ?_
    rintro e w1 ⟨rfl, hb⟩
    have hrv := HRV0.out.below hb HRV0.out.lt
    have hrs := HRS0.out.below hb HRS0.out.lt
    have hbb := below_then HB0.out hb
    have HU := Lib.hid (Utf8Tabs_below HU.out hbb)
    have c0 : w1.cell? ⟨w.heap.size, 0, none⟩ = some (.bool xb) := hrv.cell 0
    have c1 : w1.cell? ⟨w.heap.size, 1, none⟩ = some (.int .i64 xn) := hrv.cell 1
    have c2 : w1.cell? ⟨w.heap.size, 2, none⟩ = some (.string xs) := hrv.cell 2
    have d0 : w1.cell? ⟨w.heap.size + 1, 0, none⟩ = some (.int .i64 gc) := hrs.cell 0
    have d1 : w1.cell? ⟨w.heap.size + 1, 1, none⟩ = some (.bool gh) := hrs.cell 1
    have d2 : w1.cell? ⟨w.heap.size + 1, 2, none⟩ = some (.bool lb) := hrs.cell 2
    have d3 : w1.cell? ⟨w.heap.size + 1, 3, none⟩ = some (.int .i64 ln) := hrs.cell 3
    have d4 : w1.cell? ⟨w.heap.size + 1, 4, none⟩ = some (.string ls) := hrs.cell 4
    have d5 : w1.cell? ⟨w.heap.size + 1, 5, none⟩ = some (.bool mb) := hrs.cell 5
    have d6 : w1.cell? ⟨w.heap.size + 1, 6, none⟩ = some (.int .i64 mn) := hrs.cell 6
    have d7 : w1.cell? ⟨w.heap.size + 1, 7, none⟩ = some (.string ms) := hrs.cell 7
    have d8 : w1.cell? ⟨w.heap.size + 1, 8, none⟩ = some (.int .i64 gs) := hrs.cell 8
    have d9 : w1.cell? ⟨w.heap.size + 1, 9, none⟩ = some (.bool go) := hrs.cell 9
    have f2 : w1.frozen? ⟨w.heap.size, 2, none⟩ = false := hrv.free 2
    have f4 : w1.frozen? ⟨w.heap.size + 1, 4, none⟩ = false := hrs.free 4
    have f7 : w1.frozen? ⟨w.heap.size + 1, 7, none⟩ = false := hrs.free 7
    have HV1 := Lib.hid hrv
    have HS1 := Lib.hid hrs
    have HB1 := Lib.hid hbb
    clear hrv hrs hbb hb
    go_wp2_with fail
    obtain ⟨ys, hys⟩ : ∃ y, y = xs.extract 0 300 := ⟨_, rfl⟩
    rw [← hys]
    obtain ⟨ks, hks⟩ : ∃ y : ByteArray, y = ⟨#[]⟩ := ⟨_, rfl⟩
    obtain ⟨js, hjs⟩ : ∃ y : ByteArray, y = ⟨#[]⟩ := ⟨_, rfl⟩
    obtain ⟨w2, hw2⟩ : ∃ y, y = (((w1.setCell ⟨w.heap.size, 2, none⟩ (.string ys)).setCell ⟨w.heap.size + 1, 4, none⟩ (.string ⟨#[]⟩)).setCell ⟨w.heap.size + 1, 7, none⟩ (.string ⟨#[]⟩)) := ⟨_, rfl⟩
    rw [← hw2]
    have HRV := Lib.hid (show Row w2 (w.heap.size) 32 [.bool xb, .int .i64 xn, .string ys] by rw [hw2]; exact (((HV1.out.set_ 2 (.string ys)).far (p := ⟨w.heap.size + 1, 4, none⟩) (show w.heap.size ≠ w.heap.size + 1 by omega) (.string ⟨#[]⟩)).far (p := ⟨w.heap.size + 1, 7, none⟩) (show w.heap.size ≠ w.heap.size + 1 by omega) (.string ⟨#[]⟩)))
    have HRS := Lib.hid (show Row w2 (w.heap.size + 1) 36 [.int .i64 gc, .bool gh, .bool lb, .int .i64 ln, .string ks, .bool mb, .int .i64 mn, .string js, .int .i64 gs, .bool go] by rw [hw2, hks, hjs]; exact (((HS1.out.far (p := ⟨w.heap.size, 2, none⟩) (show w.heap.size + 1 ≠ w.heap.size by omega) (.string ys)).set_ 4 (.string ⟨#[]⟩)).set_ 7 (.string ⟨#[]⟩)))
    have HB := Lib.hid (show Below w.heap.size w w2 by rw [hw2]; exact (((HB1.out.setCell (p := ⟨w.heap.size, 2, none⟩) (Nat.le_refl _) _).setCell (p := ⟨w.heap.size + 1, 4, none⟩) (Nat.le_succ _) _).setCell (p := ⟨w.heap.size + 1, 7, none⟩) (Nat.le_succ _) _))
    have HYS := Lib.hid (show ys.size ≤ 300 by rw [hys]; rw [ByteArray.size_extract]; omega)
    have HKS := Lib.hid (show ks.size ≤ 300 by rw [hks]; exact Nat.zero_le _)
    have HJS := Lib.hid (show js.size ≤ 300 by rw [hjs]; exact Nat.zero_le _)
    have HU := Lib.hid (Utf8Tabs_below HU0.out HB.out)
    clear Q1 Q2 Q3 r1 r2 r0 r3 hw2 hys hks hjs HV1 HS1 HB1 f2 f4 f7 c0 c1 c2 d0 d1 d2 d3 d4 d5 d6 d7 d8 d9
  case' h3 =>
    intro q1 q2 q3
    have r1 : (300 : Int) < (xs.size : Int) := by omega
    have r0 : (300 : Int) ≤ (xs.size : Int) := by omega
    have r2 : decide ((300 : Int) < (ls.size : Int)) = false := decide_eq_false (by omega)
    have r3 : decide ((300 : Int) < (ms.size : Int)) = false := decide_eq_false (by omega)
    have Q1 := Lib.hid q1
    have Q2 := Lib.hid q2
    have Q3 := Lib.hid q3
    clear q1 q2 q3
    go_enter Tryd.func4, Tryd.ntmps4
    go_wp2_with fail
    refine (shown19_any _).mono ?_
    rintro e w1 ⟨rfl, hb⟩
    have hrv := HRV0.out.below hb HRV0.out.lt
    have hrs := HRS0.out.below hb HRS0.out.lt
    have hbb := below_then HB0.out hb
    have HU := Lib.hid (Utf8Tabs_below HU.out hbb)
    have c0 : w1.cell? ⟨w.heap.size, 0, none⟩ = some (.bool xb) := hrv.cell 0
    have c1 : w1.cell? ⟨w.heap.size, 1, none⟩ = some (.int .i64 xn) := hrv.cell 1
    have c2 : w1.cell? ⟨w.heap.size, 2, none⟩ = some (.string xs) := hrv.cell 2
    have d0 : w1.cell? ⟨w.heap.size + 1, 0, none⟩ = some (.int .i64 gc) := hrs.cell 0
    have d1 : w1.cell? ⟨w.heap.size + 1, 1, none⟩ = some (.bool gh) := hrs.cell 1
    have d2 : w1.cell? ⟨w.heap.size + 1, 2, none⟩ = some (.bool lb) := hrs.cell 2
    have d3 : w1.cell? ⟨w.heap.size + 1, 3, none⟩ = some (.int .i64 ln) := hrs.cell 3
    have d4 : w1.cell? ⟨w.heap.size + 1, 4, none⟩ = some (.string ls) := hrs.cell 4
    have d5 : w1.cell? ⟨w.heap.size + 1, 5, none⟩ = some (.bool mb) := hrs.cell 5
    have d6 : w1.cell? ⟨w.heap.size + 1, 6, none⟩ = some (.int .i64 mn) := hrs.cell 6
    have d7 : w1.cell? ⟨w.heap.size + 1, 7, none⟩ = some (.string ms) := hrs.cell 7
    have d8 : w1.cell? ⟨w.heap.size + 1, 8, none⟩ = some (.int .i64 gs) := hrs.cell 8
    have d9 : w1.cell? ⟨w.heap.size + 1, 9, none⟩ = some (.bool go) := hrs.cell 9
    have f2 : w1.frozen? ⟨w.heap.size, 2, none⟩ = false := hrv.free 2
    have f4 : w1.frozen? ⟨w.heap.size + 1, 4, none⟩ = false := hrs.free 4
    have f7 : w1.frozen? ⟨w.heap.size + 1, 7, none⟩ = false := hrs.free 7
    have HV1 := Lib.hid hrv
    have HS1 := Lib.hid hrs
    have HB1 := Lib.hid hbb
    clear hrv hrs hbb hb
    go_wp2_with fail
    obtain ⟨ys, hys⟩ : ∃ y, y = xs.extract 0 300 := ⟨_, rfl⟩
    rw [← hys]
    obtain ⟨ks, hks⟩ : ∃ y : ByteArray, y = ls := ⟨_, rfl⟩
    obtain ⟨js, hjs⟩ : ∃ y : ByteArray, y = ms := ⟨_, rfl⟩
    obtain ⟨w2, hw2⟩ : ∃ y, y = (w1.setCell ⟨w.heap.size, 2, none⟩ (.string ys)) := ⟨_, rfl⟩
    rw [← hw2]
    have HRV := Lib.hid (show Row w2 (w.heap.size) 32 [.bool xb, .int .i64 xn, .string ys] by rw [hw2]; exact (HV1.out.set_ 2 (.string ys)))
    have HRS := Lib.hid (show Row w2 (w.heap.size + 1) 36 [.int .i64 gc, .bool gh, .bool lb, .int .i64 ln, .string ks, .bool mb, .int .i64 mn, .string js, .int .i64 gs, .bool go] by rw [hw2, hks, hjs]; exact (HS1.out.far (p := ⟨w.heap.size, 2, none⟩) (show w.heap.size + 1 ≠ w.heap.size by omega) (.string ys)))
    have HB := Lib.hid (show Below w.heap.size w w2 by rw [hw2]; exact (HB1.out.setCell (p := ⟨w.heap.size, 2, none⟩) (Nat.le_refl _) _))
    have HYS := Lib.hid (show ys.size ≤ 300 by rw [hys]; rw [ByteArray.size_extract]; omega)
    have HKS := Lib.hid (show ks.size ≤ 300 by rw [hks]; have := Q2.out; omega)
    have HJS := Lib.hid (show js.size ≤ 300 by rw [hjs]; have := Q3.out; omega)
    have HU := Lib.hid (Utf8Tabs_below HU0.out HB.out)
    clear Q1 Q2 Q3 r1 r2 r0 r3 hw2 hys hks hjs HV1 HS1 HB1 f2 f4 f7 c0 c1 c2 d0 d1 d2 d3 d4 d5 d6 d7 d8 d9
  case' h4 =>
    intro q1 q2
    have r1 : decide ((300 : Int) < (xs.size : Int)) = false := decide_eq_false (by omega)
    have r2 : (300 : Int) < (ls.size : Int) := by omega
    have Q1 := Lib.hid q1
    have Q2 := Lib.hid q2
    clear q1 q2
    go_enter Tryd.func4, Tryd.ntmps4
    go_wp2_with fail
    refine (shown19_any _).mono ?_
    rintro e w1 ⟨rfl, hb⟩
    have hrv := HRV0.out.below hb HRV0.out.lt
    have hrs := HRS0.out.below hb HRS0.out.lt
    have hbb := below_then HB0.out hb
    have HU := Lib.hid (Utf8Tabs_below HU.out hbb)
    have c0 : w1.cell? ⟨w.heap.size, 0, none⟩ = some (.bool xb) := hrv.cell 0
    have c1 : w1.cell? ⟨w.heap.size, 1, none⟩ = some (.int .i64 xn) := hrv.cell 1
    have c2 : w1.cell? ⟨w.heap.size, 2, none⟩ = some (.string xs) := hrv.cell 2
    have d0 : w1.cell? ⟨w.heap.size + 1, 0, none⟩ = some (.int .i64 gc) := hrs.cell 0
    have d1 : w1.cell? ⟨w.heap.size + 1, 1, none⟩ = some (.bool gh) := hrs.cell 1
    have d2 : w1.cell? ⟨w.heap.size + 1, 2, none⟩ = some (.bool lb) := hrs.cell 2
    have d3 : w1.cell? ⟨w.heap.size + 1, 3, none⟩ = some (.int .i64 ln) := hrs.cell 3
    have d4 : w1.cell? ⟨w.heap.size + 1, 4, none⟩ = some (.string ls) := hrs.cell 4
    have d5 : w1.cell? ⟨w.heap.size + 1, 5, none⟩ = some (.bool mb) := hrs.cell 5
    have d6 : w1.cell? ⟨w.heap.size + 1, 6, none⟩ = some (.int .i64 mn) := hrs.cell 6
    have d7 : w1.cell? ⟨w.heap.size + 1, 7, none⟩ = some (.string ms) := hrs.cell 7
    have d8 : w1.cell? ⟨w.heap.size + 1, 8, none⟩ = some (.int .i64 gs) := hrs.cell 8
    have d9 : w1.cell? ⟨w.heap.size + 1, 9, none⟩ = some (.bool go) := hrs.cell 9
    have f2 : w1.frozen? ⟨w.heap.size, 2, none⟩ = false := hrv.free 2
    have f4 : w1.frozen? ⟨w.heap.size + 1, 4, none⟩ = false := hrs.free 4
    have f7 : w1.frozen? ⟨w.heap.size + 1, 7, none⟩ = false := hrs.free 7
    have HV1 := Lib.hid hrv
    have HS1 := Lib.hid hrs
    have HB1 := Lib.hid hbb
    clear hrv hrs hbb hb
    go_wp2_with fail
    obtain ⟨ys, hys⟩ : ∃ y, y = xs := ⟨_, rfl⟩
    rw [← hys]
    obtain ⟨ks, hks⟩ : ∃ y : ByteArray, y = ⟨#[]⟩ := ⟨_, rfl⟩
    obtain ⟨js, hjs⟩ : ∃ y : ByteArray, y = ⟨#[]⟩ := ⟨_, rfl⟩
    obtain ⟨w2, hw2⟩ : ∃ y, y = ((w1.setCell ⟨w.heap.size + 1, 4, none⟩ (.string ⟨#[]⟩)).setCell ⟨w.heap.size + 1, 7, none⟩ (.string ⟨#[]⟩)) := ⟨_, rfl⟩
    rw [← hw2]
    have HRV := Lib.hid (show Row w2 (w.heap.size) 32 [.bool xb, .int .i64 xn, .string ys] by rw [hw2]; rw [hys]; exact ((HV1.out.far (p := ⟨w.heap.size + 1, 4, none⟩) (show w.heap.size ≠ w.heap.size + 1 by omega) (.string ⟨#[]⟩)).far (p := ⟨w.heap.size + 1, 7, none⟩) (show w.heap.size ≠ w.heap.size + 1 by omega) (.string ⟨#[]⟩)))
    have HRS := Lib.hid (show Row w2 (w.heap.size + 1) 36 [.int .i64 gc, .bool gh, .bool lb, .int .i64 ln, .string ks, .bool mb, .int .i64 mn, .string js, .int .i64 gs, .bool go] by rw [hw2, hks, hjs]; exact ((HS1.out.set_ 4 (.string ⟨#[]⟩)).set_ 7 (.string ⟨#[]⟩)))
    have HB := Lib.hid (show Below w.heap.size w w2 by rw [hw2]; exact ((HB1.out.setCell (p := ⟨w.heap.size + 1, 4, none⟩) (Nat.le_succ _) _).setCell (p := ⟨w.heap.size + 1, 7, none⟩) (Nat.le_succ _) _))
    have HYS := Lib.hid (show ys.size ≤ 300 by rw [hys]; have := Q1.out; omega)
    have HKS := Lib.hid (show ks.size ≤ 300 by rw [hks]; exact Nat.zero_le _)
    have HJS := Lib.hid (show js.size ≤ 300 by rw [hjs]; exact Nat.zero_le _)
    have HU := Lib.hid (Utf8Tabs_below HU0.out HB.out)
    clear Q1 Q2 r1 r2 hw2 hys hks hjs HV1 HS1 HB1 f2 f4 f7 c0 c1 c2 d0 d1 d2 d3 d4 d5 d6 d7 d8 d9
  case' h5 =>
    intro q1 q2 q3
    have r1 : decide ((300 : Int) < (xs.size : Int)) = false := decide_eq_false (by omega)
    have r2 : decide ((300 : Int) < (ls.size : Int)) = false := decide_eq_false (by omega)
    have r3 : (300 : Int) < (ms.size : Int) := by omega
    have Q1 := Lib.hid q1
    have Q2 := Lib.hid q2
    have Q3 := Lib.hid q3
    clear q1 q2 q3
    go_enter Tryd.func4, Tryd.ntmps4
    go_wp2_with fail
    refine (shown19_any _).mono ?_
    rintro e w1 ⟨rfl, hb⟩
    have hrv := HRV0.out.below hb HRV0.out.lt
    have hrs := HRS0.out.below hb HRS0.out.lt
    have hbb := below_then HB0.out hb
    have HU := Lib.hid (Utf8Tabs_below HU.out hbb)
    have c0 : w1.cell? ⟨w.heap.size, 0, none⟩ = some (.bool xb) := hrv.cell 0
    have c1 : w1.cell? ⟨w.heap.size, 1, none⟩ = some (.int .i64 xn) := hrv.cell 1
    have c2 : w1.cell? ⟨w.heap.size, 2, none⟩ = some (.string xs) := hrv.cell 2
    have d0 : w1.cell? ⟨w.heap.size + 1, 0, none⟩ = some (.int .i64 gc) := hrs.cell 0
    have d1 : w1.cell? ⟨w.heap.size + 1, 1, none⟩ = some (.bool gh) := hrs.cell 1
    have d2 : w1.cell? ⟨w.heap.size + 1, 2, none⟩ = some (.bool lb) := hrs.cell 2
    have d3 : w1.cell? ⟨w.heap.size + 1, 3, none⟩ = some (.int .i64 ln) := hrs.cell 3
    have d4 : w1.cell? ⟨w.heap.size + 1, 4, none⟩ = some (.string ls) := hrs.cell 4
    have d5 : w1.cell? ⟨w.heap.size + 1, 5, none⟩ = some (.bool mb) := hrs.cell 5
    have d6 : w1.cell? ⟨w.heap.size + 1, 6, none⟩ = some (.int .i64 mn) := hrs.cell 6
    have d7 : w1.cell? ⟨w.heap.size + 1, 7, none⟩ = some (.string ms) := hrs.cell 7
    have d8 : w1.cell? ⟨w.heap.size + 1, 8, none⟩ = some (.int .i64 gs) := hrs.cell 8
    have d9 : w1.cell? ⟨w.heap.size + 1, 9, none⟩ = some (.bool go) := hrs.cell 9
    have f2 : w1.frozen? ⟨w.heap.size, 2, none⟩ = false := hrv.free 2
    have f4 : w1.frozen? ⟨w.heap.size + 1, 4, none⟩ = false := hrs.free 4
    have f7 : w1.frozen? ⟨w.heap.size + 1, 7, none⟩ = false := hrs.free 7
    have HV1 := Lib.hid hrv
    have HS1 := Lib.hid hrs
    have HB1 := Lib.hid hbb
    clear hrv hrs hbb hb
    go_wp2_with fail
    obtain ⟨ys, hys⟩ : ∃ y, y = xs := ⟨_, rfl⟩
    rw [← hys]
    obtain ⟨ks, hks⟩ : ∃ y : ByteArray, y = ⟨#[]⟩ := ⟨_, rfl⟩
    obtain ⟨js, hjs⟩ : ∃ y : ByteArray, y = ⟨#[]⟩ := ⟨_, rfl⟩
    obtain ⟨w2, hw2⟩ : ∃ y, y = ((w1.setCell ⟨w.heap.size + 1, 4, none⟩ (.string ⟨#[]⟩)).setCell ⟨w.heap.size + 1, 7, none⟩ (.string ⟨#[]⟩)) := ⟨_, rfl⟩
    rw [← hw2]
    have HRV := Lib.hid (show Row w2 (w.heap.size) 32 [.bool xb, .int .i64 xn, .string ys] by rw [hw2]; rw [hys]; exact ((HV1.out.far (p := ⟨w.heap.size + 1, 4, none⟩) (show w.heap.size ≠ w.heap.size + 1 by omega) (.string ⟨#[]⟩)).far (p := ⟨w.heap.size + 1, 7, none⟩) (show w.heap.size ≠ w.heap.size + 1 by omega) (.string ⟨#[]⟩)))
    have HRS := Lib.hid (show Row w2 (w.heap.size + 1) 36 [.int .i64 gc, .bool gh, .bool lb, .int .i64 ln, .string ks, .bool mb, .int .i64 mn, .string js, .int .i64 gs, .bool go] by rw [hw2, hks, hjs]; exact ((HS1.out.set_ 4 (.string ⟨#[]⟩)).set_ 7 (.string ⟨#[]⟩)))
    have HB := Lib.hid (show Below w.heap.size w w2 by rw [hw2]; exact ((HB1.out.setCell (p := ⟨w.heap.size + 1, 4, none⟩) (Nat.le_succ _) _).setCell (p := ⟨w.heap.size + 1, 7, none⟩) (Nat.le_succ _) _))
    have HYS := Lib.hid (show ys.size ≤ 300 by rw [hys]; have := Q1.out; omega)
    have HKS := Lib.hid (show ks.size ≤ 300 by rw [hks]; exact Nat.zero_le _)
    have HJS := Lib.hid (show js.size ≤ 300 by rw [hjs]; exact Nat.zero_le _)
    have HU := Lib.hid (Utf8Tabs_below HU0.out HB.out)
    clear Q1 Q2 Q3 r1 r2 r3 hw2 hys hks hjs HV1 HS1 HB1 f2 f4 f7 c0 c1 c2 d0 d1 d2 d3 d4 d5 d6 d7 d8 d9
  case' h6 =>
    intro q1 q2 q3
    have r1 : decide ((300 : Int) < (xs.size : Int)) = false := decide_eq_false (by omega)
    have r2 : decide ((300 : Int) < (ls.size : Int)) = false := decide_eq_false (by omega)
    have r3 : decide ((300 : Int) < (ms.size : Int)) = false := decide_eq_false (by omega)
    have Q1 := Lib.hid q1
    have Q2 := Lib.hid q2
    have Q3 := Lib.hid q3
    clear q1 q2 q3
    go_enter Tryd.func4, Tryd.ntmps4
    go_wp2_with fail
    refine (shown19_any _).mono ?_
    rintro e w1 ⟨rfl, hb⟩
    have hrv := HRV0.out.below hb HRV0.out.lt
    have hrs := HRS0.out.below hb HRS0.out.lt
    have hbb := below_then HB0.out hb
    have HU := Lib.hid (Utf8Tabs_below HU.out hbb)
    have c0 : w1.cell? ⟨w.heap.size, 0, none⟩ = some (.bool xb) := hrv.cell 0
    have c1 : w1.cell? ⟨w.heap.size, 1, none⟩ = some (.int .i64 xn) := hrv.cell 1
    have c2 : w1.cell? ⟨w.heap.size, 2, none⟩ = some (.string xs) := hrv.cell 2
    have d0 : w1.cell? ⟨w.heap.size + 1, 0, none⟩ = some (.int .i64 gc) := hrs.cell 0
    have d1 : w1.cell? ⟨w.heap.size + 1, 1, none⟩ = some (.bool gh) := hrs.cell 1
    have d2 : w1.cell? ⟨w.heap.size + 1, 2, none⟩ = some (.bool lb) := hrs.cell 2
    have d3 : w1.cell? ⟨w.heap.size + 1, 3, none⟩ = some (.int .i64 ln) := hrs.cell 3
    have d4 : w1.cell? ⟨w.heap.size + 1, 4, none⟩ = some (.string ls) := hrs.cell 4
    have d5 : w1.cell? ⟨w.heap.size + 1, 5, none⟩ = some (.bool mb) := hrs.cell 5
    have d6 : w1.cell? ⟨w.heap.size + 1, 6, none⟩ = some (.int .i64 mn) := hrs.cell 6
    have d7 : w1.cell? ⟨w.heap.size + 1, 7, none⟩ = some (.string ms) := hrs.cell 7
    have d8 : w1.cell? ⟨w.heap.size + 1, 8, none⟩ = some (.int .i64 gs) := hrs.cell 8
    have d9 : w1.cell? ⟨w.heap.size + 1, 9, none⟩ = some (.bool go) := hrs.cell 9
    have f2 : w1.frozen? ⟨w.heap.size, 2, none⟩ = false := hrv.free 2
    have f4 : w1.frozen? ⟨w.heap.size + 1, 4, none⟩ = false := hrs.free 4
    have f7 : w1.frozen? ⟨w.heap.size + 1, 7, none⟩ = false := hrs.free 7
    have HV1 := Lib.hid hrv
    have HS1 := Lib.hid hrs
    have HB1 := Lib.hid hbb
    clear hrv hrs hbb hb
    go_wp2_with fail
    obtain ⟨ys, hys⟩ : ∃ y, y = xs := ⟨_, rfl⟩
    rw [← hys]
    obtain ⟨ks, hks⟩ : ∃ y : ByteArray, y = ls := ⟨_, rfl⟩
    obtain ⟨js, hjs⟩ : ∃ y : ByteArray, y = ms := ⟨_, rfl⟩
    obtain ⟨w2, hw2⟩ : ∃ y, y = w1 := ⟨_, rfl⟩
    rw [← hw2]
    have HRV := Lib.hid (show Row w2 (w.heap.size) 32 [.bool xb, .int .i64 xn, .string ys] by rw [hw2]; rw [hys]; exact HV1.out)
    have HRS := Lib.hid (show Row w2 (w.heap.size + 1) 36 [.int .i64 gc, .bool gh, .bool lb, .int .i64 ln, .string ks, .bool mb, .int .i64 mn, .string js, .int .i64 gs, .bool go] by rw [hw2, hks, hjs]; exact HS1.out)
    have HB := Lib.hid (show Below w.heap.size w w2 by rw [hw2]; exact HB1.out)
    have HYS := Lib.hid (show ys.size ≤ 300 by rw [hys]; have := Q1.out; omega)
    have HKS := Lib.hid (show ks.size ≤ 300 by rw [hks]; have := Q2.out; omega)
    have HJS := Lib.hid (show js.size ≤ 300 by rw [hjs]; have := Q3.out; omega)
    have HU := Lib.hid (Utf8Tabs_below HU0.out HB.out)
    clear Q1 Q2 Q3 r1 r2 r3 hw2 hys hks hjs HV1 HS1 HB1 f2 f4 f7 c0 c1 c2 d0 d1 d2 d3 d4 d5 d6 d7 d8 d9
  all_goals
    obtain ⟨p1, p2, p3⟩ := valV xb xn ys (HIX.out ys) HYS.out
    obtain ⟨may, tc, th, pb, pn, ps, qb, qn, qs, ts, to_, y, s1, s2, s3, s4, s5, s6⟩ := valS k gc gh lb ln ks mb mn js gs go (HIS.out ks js) HKS.out HJS.out
    have P1 := Lib.hid p1
    have P2 := Lib.hid p2
    have P3 := Lib.hid p3
    have S1 := Lib.hid s1
    have S2 := Lib.hid s2
    have S3 := Lib.hid s3
    have S4 := Lib.hid s4
    have S5 := Lib.hid s5
    have S6 := Lib.hid s6
    clear p1 p2 p3 s1 s2 s3 s4 s5 s6
    obtain ⟨lv, hlv⟩ : ∃ l, l = fputV (⟨xb, xn, ys⟩ : CV) := ⟨_, rfl⟩
    obtain ⟨lg, hlg⟩ : ∃ l, l = fputG (⟨gc, gh, ⟨lb, ln, ks⟩, ⟨mb, mn, js⟩, gs, go⟩ : GS) := ⟨_, rfl⟩
    rw [← hlv] at P1 P2 P3
    rw [← hlg] at S1 S2 S3
    clear hlv hlg
    refine (P1.out w2).mono ?_
    rintro e w3 ⟨⟨a, rfl, hi⟩, hb⟩
    have HU := Lib.hid (Utf8Tabs_below HU.out hb)
    have HRV := Lib.hid (HRV.out.below hb HRV.out.lt)
    have HRS := Lib.hid (HRS.out.below hb HRS.out.lt)
    have HB := Lib.hid (below_then HB.out hb)
    have HA := Lib.hid (hi)
    clear hi hb
    have d0 : w3.cell? ⟨w.heap.size + 1, 0, none⟩ = some (.int .i64 gc) := HRS.out.cell 0
    have d1 : w3.cell? ⟨w.heap.size + 1, 1, none⟩ = some (.bool gh) := HRS.out.cell 1
    have d2 : w3.cell? ⟨w.heap.size + 1, 2, none⟩ = some (.bool lb) := HRS.out.cell 2
    have d3 : w3.cell? ⟨w.heap.size + 1, 3, none⟩ = some (.int .i64 ln) := HRS.out.cell 3
    have d4 : w3.cell? ⟨w.heap.size + 1, 4, none⟩ = some (.string ks) := HRS.out.cell 4
    have d5 : w3.cell? ⟨w.heap.size + 1, 5, none⟩ = some (.bool mb) := HRS.out.cell 5
    have d6 : w3.cell? ⟨w.heap.size + 1, 6, none⟩ = some (.int .i64 mn) := HRS.out.cell 6
    have d7 : w3.cell? ⟨w.heap.size + 1, 7, none⟩ = some (.string js) := HRS.out.cell 7
    have d8 : w3.cell? ⟨w.heap.size + 1, 8, none⟩ = some (.int .i64 gs) := HRS.out.cell 8
    have d9 : w3.cell? ⟨w.heap.size + 1, 9, none⟩ = some (.bool go) := HRS.out.cell 9
    go_wp2_with fail
    refine (S1.out w3).mono ?_
    rintro e w4 ⟨⟨b, rfl, hi⟩, hb⟩
    have HU := Lib.hid (Utf8Tabs_below HU.out hb)
    have HRV := Lib.hid (HRV.out.below hb HRV.out.lt)
    have HRS := Lib.hid (HRS.out.below hb HRS.out.lt)
    have HA := Lib.hid (IsB.below HA.out hb)
    have HB := Lib.hid (below_then HB.out hb)
    have HBG := Lib.hid (hi)
    clear d0 d1 d2 d3 d4 d5 d6 d7 d8 d9
    clear hi hb
    go_wp2_with fail
    refine (P3.out _ w4 HA.out).mono ?_
    rintro e w5 ⟨rfl, hb⟩
    have HU := Lib.hid (Utf8Tabs_below HU.out hb)
    have HRV := Lib.hid (HRV.out.below hb HRV.out.lt)
    have HRS := Lib.hid (HRS.out.below hb HRS.out.lt)
    have HA := Lib.hid (IsB.below HA.out hb)
    have HBG := Lib.hid (IsB.below HBG.out hb)
    have HB := Lib.hid (below_then HB.out hb)
    clear hb
    obtain ⟨w6, hw⟩ : ∃ y, y = (w5.alloc (.cells #[.bool xb, .int .i64 xn, .string ys] 32)) := ⟨_, rfl⟩
    obtain ⟨g1, hg⟩ : ∃ y, y = w5.heap.size := ⟨_, rfl⟩
    have hb : Below w5.heap.size w5 w6 := by rw [hw]; exact (Below.refl _ _).alloc (Nat.le_refl _) _
    have hr : Row w6 g1 32 [.bool xb, .int .i64 xn, .string ys] := by rw [hw, hg]; exact heap_alloc_new w5 _
    have HU := Lib.hid (Utf8Tabs_below HU.out hb)
    have HRV := Lib.hid (HRV.out.below hb HRV.out.lt)
    have HRS := Lib.hid (HRS.out.below hb HRS.out.lt)
    have HA := Lib.hid (IsB.below HA.out hb)
    have HBG := Lib.hid (IsB.below HBG.out hb)
    have HB := Lib.hid (below_then HB.out hb)
    have HR1 := Lib.hid hr
    have HZ1 := Lib.hid (show w6.heap.size = g1 + 1 by rw [hw, hg]; simp)
    have HW1 := Lib.hid hw
    have HG1 := Lib.hid hg
    clear hb hr hw hg
    go_wp2_with fail
    rw [← HW1.out, ← HG1.out]
    refine (S3.out _ w6 HBG.out).mono ?_
    rintro e w7 ⟨rfl, hb⟩
    have HU := Lib.hid (Utf8Tabs_below HU.out hb)
    have HRV := Lib.hid (HRV.out.below hb HRV.out.lt)
    have HRS := Lib.hid (HRS.out.below hb HRS.out.lt)
    have HA := Lib.hid (IsB.below HA.out hb)
    have HBG := Lib.hid (IsB.below HBG.out hb)
    have HR1 := Lib.hid (HR1.out.below hb HR1.out.lt)
    have HB := Lib.hid (below_then HB.out hb)
    clear hb
    obtain ⟨w8, hw⟩ : ∃ y, y = (w7.alloc (.cells #[.int .i64 tc, .bool th, .bool pb, .int .i64 pn, .string ps, .bool qb, .int .i64 qn, .string qs, .int .i64 ts, .bool to_] 36)) := ⟨_, rfl⟩
    obtain ⟨g2, hg⟩ : ∃ y, y = w7.heap.size := ⟨_, rfl⟩
    have hb : Below w7.heap.size w7 w8 := by rw [hw]; exact (Below.refl _ _).alloc (Nat.le_refl _) _
    have hr : Row w8 g2 36 [.int .i64 tc, .bool th, .bool pb, .int .i64 pn, .string ps, .bool qb, .int .i64 qn, .string qs, .int .i64 ts, .bool to_] := by rw [hw, hg]; exact heap_alloc_new w7 _
    have HU := Lib.hid (Utf8Tabs_below HU.out hb)
    have HRV := Lib.hid (HRV.out.below hb HRV.out.lt)
    have HRS := Lib.hid (HRS.out.below hb HRS.out.lt)
    have HA := Lib.hid (IsB.below HA.out hb)
    have HBG := Lib.hid (IsB.below HBG.out hb)
    have HR1 := Lib.hid (HR1.out.below hb HR1.out.lt)
    have HB := Lib.hid (below_then HB.out hb)
    have HR2 := Lib.hid hr
    have HZ2 := Lib.hid (show w8.heap.size = g2 + 1 by rw [hw, hg]; simp)
    have HW2 := Lib.hid hw
    have HG2 := Lib.hid hg
    clear hb hr hw hg
    have d0 : (w7.alloc (.cells #[.int .i64 tc, .bool th, .bool pb, .int .i64 pn, .string ps, .bool qb, .int .i64 qn, .string qs, .int .i64 ts, .bool to_] 36)).cell? ⟨w.heap.size + 1, 0, none⟩ = some (.int .i64 gc) := by rw [← HW2.out]; exact HRS.out.cell 0
    have d1 : (w7.alloc (.cells #[.int .i64 tc, .bool th, .bool pb, .int .i64 pn, .string ps, .bool qb, .int .i64 qn, .string qs, .int .i64 ts, .bool to_] 36)).cell? ⟨w.heap.size + 1, 1, none⟩ = some (.bool gh) := by rw [← HW2.out]; exact HRS.out.cell 1
    have d2 : (w7.alloc (.cells #[.int .i64 tc, .bool th, .bool pb, .int .i64 pn, .string ps, .bool qb, .int .i64 qn, .string qs, .int .i64 ts, .bool to_] 36)).cell? ⟨w.heap.size + 1, 2, none⟩ = some (.bool lb) := by rw [← HW2.out]; exact HRS.out.cell 2
    have d3 : (w7.alloc (.cells #[.int .i64 tc, .bool th, .bool pb, .int .i64 pn, .string ps, .bool qb, .int .i64 qn, .string qs, .int .i64 ts, .bool to_] 36)).cell? ⟨w.heap.size + 1, 3, none⟩ = some (.int .i64 ln) := by rw [← HW2.out]; exact HRS.out.cell 3
    have d4 : (w7.alloc (.cells #[.int .i64 tc, .bool th, .bool pb, .int .i64 pn, .string ps, .bool qb, .int .i64 qn, .string qs, .int .i64 ts, .bool to_] 36)).cell? ⟨w.heap.size + 1, 4, none⟩ = some (.string ks) := by rw [← HW2.out]; exact HRS.out.cell 4
    have d5 : (w7.alloc (.cells #[.int .i64 tc, .bool th, .bool pb, .int .i64 pn, .string ps, .bool qb, .int .i64 qn, .string qs, .int .i64 ts, .bool to_] 36)).cell? ⟨w.heap.size + 1, 5, none⟩ = some (.bool mb) := by rw [← HW2.out]; exact HRS.out.cell 5
    have d6 : (w7.alloc (.cells #[.int .i64 tc, .bool th, .bool pb, .int .i64 pn, .string ps, .bool qb, .int .i64 qn, .string qs, .int .i64 ts, .bool to_] 36)).cell? ⟨w.heap.size + 1, 6, none⟩ = some (.int .i64 mn) := by rw [← HW2.out]; exact HRS.out.cell 6
    have d7 : (w7.alloc (.cells #[.int .i64 tc, .bool th, .bool pb, .int .i64 pn, .string ps, .bool qb, .int .i64 qn, .string qs, .int .i64 ts, .bool to_] 36)).cell? ⟨w.heap.size + 1, 7, none⟩ = some (.string js) := by rw [← HW2.out]; exact HRS.out.cell 7
    have d8 : (w7.alloc (.cells #[.int .i64 tc, .bool th, .bool pb, .int .i64 pn, .string ps, .bool qb, .int .i64 qn, .string qs, .int .i64 ts, .bool to_] 36)).cell? ⟨w.heap.size + 1, 8, none⟩ = some (.int .i64 gs) := by rw [← HW2.out]; exact HRS.out.cell 8
    have d9 : (w7.alloc (.cells #[.int .i64 tc, .bool th, .bool pb, .int .i64 pn, .string ps, .bool qb, .int .i64 qn, .string qs, .int .i64 ts, .bool to_] 36)).cell? ⟨w.heap.size + 1, 9, none⟩ = some (.bool go) := by rw [← HW2.out]; exact HRS.out.cell 9
    go_wp2_with fail
    rw [← HW2.out, ← HG2.out]
    refine (S4.out w8 HU.out).mono ?_
    rintro e w9 ⟨rfl, hb⟩
    have HU := Lib.hid (Utf8Tabs_below HU.out hb)
    have HRV := Lib.hid (HRV.out.below hb HRV.out.lt)
    have HRS := Lib.hid (HRS.out.below hb HRS.out.lt)
    have HA := Lib.hid (IsB.below HA.out hb)
    have HBG := Lib.hid (IsB.below HBG.out hb)
    have HR1 := Lib.hid (HR1.out.below hb HR1.out.lt)
    have HR2 := Lib.hid (HR2.out.below hb HR2.out.lt)
    have HB := Lib.hid (below_then HB.out hb)
    clear d0 d1 d2 d3 d4 d5 d6 d7 d8 d9
    clear hb
    go_wp2_with fail
    refine wp_region_list [.bytes (lv), .is (.string ⟨(lv).toArray⟩), .is (.agg #[.bool xb, .int .i64 xn, .string ys]), .bytes (lv), .is (.string ⟨(lv).toArray⟩), .is (.bool true), .is (.bool true), .is (.agg #[.bool xb, .int .i64 xn, .string ys]), .is (.agg #[.bool xb, .int .i64 xn, .string ys]), .is (.bool true), .is (.bool true), .is (.bool true), .is (.int .i64 0), .is (.bool true), .is (.bool true), .is (.bool true)] [some 60, some 61, some 62, some 63, some 64, some 65, some 66, some 67, some 68, some 69, some 70, some 71, some 72, some 73, some 74, some 15] (by kernel_rfl) (by kernel_rfl) (by kernel_rfl) rfl ⟨?_, ?_, ?_, ?_, ?_, ?_, ?_, ?_, ?_, ?_, ?_, ?_, ?_, ?_, ?_, ?_, trivial⟩ ?_
    · intro ρ W1 hb1 H
      exact gives_move rfl (H.old 8 _ (by kernel_rfl) rfl) ⟨IsV.below (f := bv) HA.out hb1, Below.refl _ _⟩
    · intro ρ W1 hb1 H
      have hB : IsB (lv) (ρ (.tmp 60)) W1 := H.new 60 0 (by kernel_rfl)
      exact gives_convert rfl rfl (hB.text _ _ _ Tryd.underlying22 Tryd.underlying5 Tryd.underlying9) ⟨rfl, Below.refl _ _⟩
    · intro ρ W1 hb1 H
      exact gives_load_row (cs := [.bool xb, .int .i64 xn, .string ys]) rfl (H.old 3 _ (by kernel_rfl) rfl) Tryd.underlying32 rfl fvalI_size (HRV.out.below hb1 HRV.out.lt) ⟨rfl, Below.refl _ _⟩
    · intro ρ W1 hb1 H
      have e0 : ρ (.tmp 62) = .agg #[.bool xb, .int .i64 xn, .string ys] := H.new 62 2 (by kernel_rfl)
      refine gives_call rfl (fun _ _ => by kernel_rfl) (H.func _) (args := #[.agg #[.bool xb, .int .i64 xn, .string ys]]) (by simp [e0]) ?_
      exact (P2.out W1).mono fun e w' ⟨⟨u, h1, h2⟩, h3⟩ => ⟨u, h1, h2, h3⟩
    · intro ρ W1 hb1 H
      have hB : IsB (lv) (ρ (.tmp 63)) W1 := H.new 63 3 (by kernel_rfl)
      exact gives_convert rfl rfl (hB.text _ _ _ Tryd.underlying22 Tryd.underlying5 Tryd.underlying9) ⟨rfl, Below.refl _ _⟩
    · intro ρ W1 hb1 H
      exact gives_texteq (a := lv) (b := lv) rfl (H.new 61 1 (by kernel_rfl)) (H.new 64 4 (by kernel_rfl)) ⟨by simp [facts, Fact.is], Below.refl _ _⟩
    · intro ρ W1 hb1 H
      exact gives_move rfl (H.new 65 5 (by kernel_rfl)) ⟨rfl, Below.refl _ _⟩
    · intro ρ W1 hb1 H d hd
      have hd' : (some 66 : Option Tmp) = some d := hd
      injection hd' with hd'
      subst hd'
      refine ⟨fun _ => ?_, fun hne => absurd (H.new 66 6 (by kernel_rfl)) hne⟩
      exact gives_load_row (cs := [.bool xb, .int .i64 xn, .string ys]) rfl (H.old 10 _ (by kernel_rfl) rfl) Tryd.underlying32 rfl fvalI_size (HR1.out.below hb1 HR1.out.lt) ⟨rfl, Below.refl _ _⟩
    · intro ρ W1 hb1 H d hd
      have hd' : (some 66 : Option Tmp) = some d := hd
      injection hd' with hd'
      subst hd'
      refine ⟨fun _ => ?_, fun hne => absurd (H.new 66 6 (by kernel_rfl)) hne⟩
      exact gives_load_row (cs := [.bool xb, .int .i64 xn, .string ys]) rfl (H.old 3 _ (by kernel_rfl) rfl) Tryd.underlying32 rfl fvalI_size (HRV.out.below hb1 HRV.out.lt) ⟨rfl, Below.refl _ _⟩
    · intro ρ W1 hb1 H d hd
      have hd' : (some 66 : Option Tmp) = some d := hd
      injection hd' with hd'
      subst hd'
      refine ⟨fun _ => ?_, fun hne => absurd (H.new 66 6 (by kernel_rfl)) hne⟩
      exact gives_eqVF (G := (⟨xb, xn, ys⟩ : CV)) rfl (H.new 67 7 (by kernel_rfl)) (H.new 68 8 (by kernel_rfl)) ⟨rfl, Below.refl _ _⟩
    · intro ρ W1 hb1 H
      exact gives_pick_t rfl (H.new 66 6 (by kernel_rfl)) (H.new 69 9 (by kernel_rfl)) ⟨rfl, Below.refl _ _⟩
    · intro ρ W1 hb1 H
      exact gives_move rfl (H.new 70 10 (by kernel_rfl)) ⟨rfl, Below.refl _ _⟩
    · intro ρ W1 hb1 H d hd
      have hd' : (some 71 : Option Tmp) = some d := hd
      injection hd' with hd'
      subst hd'
      refine ⟨fun _ => ?_, fun hne => absurd (H.new 71 11 (by kernel_rfl)) hne⟩
      exact gives_move rfl (H.old 11 _ (by kernel_rfl) rfl) ⟨rfl, Below.refl _ _⟩
    · intro ρ W1 hb1 H d hd
      have hd' : (some 71 : Option Tmp) = some d := hd
      injection hd' with hd'
      subst hd'
      refine ⟨fun _ => ?_, fun hne => absurd (H.new 71 11 (by kernel_rfl)) hne⟩
      exact gives_inteq rfl (H.new 72 12 (by kernel_rfl)) (H.const _) ⟨by simp [facts, Fact.is], Below.refl _ _⟩
    · intro ρ W1 hb1 H
      exact gives_pick_t rfl (H.new 71 11 (by kernel_rfl)) (H.new 73 13 (by kernel_rfl)) ⟨rfl, Below.refl _ _⟩
    · intro ρ W1 hb1 H
      exact gives_assign rfl (H.new 74 14 (by kernel_rfl)) ⟨rfl, Below.refl _ _⟩
    · intro vs W1 hb1 hfs
      have f15 : vs 15 = .bool true := hfs 15 (by decide)
      clear hfs
      simp only [putAll, Nat.zero_add, Nat.reduceAdd]
      generalize vs 0 = z0
      generalize vs 1 = z1
      generalize vs 2 = z2
      generalize vs 3 = z3
      generalize vs 4 = z4
      generalize vs 5 = z5
      generalize vs 6 = z6
      generalize vs 7 = z7
      generalize vs 8 = z8
      generalize vs 9 = z9
      generalize vs 10 = z10
      generalize vs 11 = z11
      generalize vs 12 = z12
      generalize vs 13 = z13
      generalize vs 14 = z14
      simp only [f15, Act.put, List.setIfInBounds_toArray, List.set_cons_succ, List.set_cons_zero]
      clear f15
      have HRS := Lib.hid (HRS.out.below hb1 HRS.out.lt)
      have HBG := Lib.hid (IsB.below HBG.out hb1)
      have HR2 := Lib.hid (HR2.out.below hb1 HR2.out.lt)
      have HB := Lib.hid (below_then HB.out hb1)
      clear hb1
      cases may with
      | false =>
        obtain rfl := S6.out rfl
        go_wp2_with fail
        refine wp_region_list [.bytes (lg), .is (.string ⟨(lg).toArray⟩), .is (.agg #[.int .i64 gc, .bool gh, .bool lb, .int .i64 ln, .string ks, .bool mb, .int .i64 mn, .string js, .int .i64 gs, .bool go]), .bytes (lg), .is (.string ⟨(lg).toArray⟩), .is (.bool true), .is (.bool true), .is (.bool false), .is (.bool false), .any, .any, .any, .is (.bool false), .is (.bool false), .any, .any, .is (.bool false), .is (.bool false), .is (.bool false), .is (.bool true), .is (.bool true), .is (.int .i64 2), .is (.bool true), .is (.bool true), .is (.bool true), .is (.bool true), .is (.bool true)] [some 75, some 76, some 77, some 78, some 79, some 80, some 81, some 82, some 83, some 84, some 85, some 86, some 87, some 88, some 89, some 90, some 91, some 92, some 93, some 94, some 95, some 96, some 97, some 98, some 99, some 100, some 16] (by kernel_rfl) (by kernel_rfl) (by kernel_rfl) rfl ⟨?_, ?_, ?_, ?_, ?_, ?_, ?_, ?_, ?_, ?_, ?_, ?_, ?_, ?_, ?_, ?_, ?_, ?_, ?_, ?_, ?_, ?_, ?_, ?_, ?_, ?_, ?_, trivial⟩ ?_
        · intro ρ W1 hb1 H
          exact gives_move rfl (H.old 9 _ (by kernel_rfl) rfl) ⟨IsV.below (f := bv) HBG.out hb1, Below.refl _ _⟩
        · intro ρ W1 hb1 H
          have hB : IsB (lg) (ρ (.tmp 75)) W1 := H.new 75 0 (by kernel_rfl)
          exact gives_convert rfl rfl (hB.text _ _ _ Tryd.underlying22 Tryd.underlying5 Tryd.underlying9) ⟨rfl, Below.refl _ _⟩
        · intro ρ W1 hb1 H
          exact gives_load_row (cs := [.int .i64 gc, .bool gh, .bool lb, .int .i64 ln, .string ks, .bool mb, .int .i64 mn, .string js, .int .i64 gs, .bool go]) rfl (H.old 5 _ (by kernel_rfl) rfl) Tryd.underlying36 rfl fstI_size (HRS.out.below hb1 HRS.out.lt) ⟨rfl, Below.refl _ _⟩
        · intro ρ W1 hb1 H
          have e0 : ρ (.tmp 77) = .agg #[.int .i64 gc, .bool gh, .bool lb, .int .i64 ln, .string ks, .bool mb, .int .i64 mn, .string js, .int .i64 gs, .bool go] := H.new 77 2 (by kernel_rfl)
          refine gives_call rfl (fun _ _ => by kernel_rfl) (H.func _) (args := #[.agg #[.int .i64 gc, .bool gh, .bool lb, .int .i64 ln, .string ks, .bool mb, .int .i64 mn, .string js, .int .i64 gs, .bool go]]) (by simp [e0]) ?_
          exact (S2.out W1).mono fun e w' ⟨⟨u, h1, h2⟩, h3⟩ => ⟨u, h1, h2, h3⟩
        · intro ρ W1 hb1 H
          have hB : IsB (lg) (ρ (.tmp 78)) W1 := H.new 78 3 (by kernel_rfl)
          exact gives_convert rfl rfl (hB.text _ _ _ Tryd.underlying22 Tryd.underlying5 Tryd.underlying9) ⟨rfl, Below.refl _ _⟩
        · intro ρ W1 hb1 H
          exact gives_texteq (a := lg) (b := lg) rfl (H.new 76 1 (by kernel_rfl)) (H.new 79 4 (by kernel_rfl)) ⟨by simp [facts, Fact.is], Below.refl _ _⟩
        · intro ρ W1 hb1 H
          exact gives_move rfl (H.new 80 5 (by kernel_rfl)) ⟨rfl, Below.refl _ _⟩
        · intro ρ W1 hb1 H d hd
          have hd' : (some 81 : Option Tmp) = some d := hd
          injection hd' with hd'
          subst hd'
          refine ⟨fun _ => ?_, fun hne => absurd (H.new 81 6 (by kernel_rfl)) hne⟩
          exact gives_move rfl (H.old 14 _ (by kernel_rfl) rfl) ⟨rfl, Below.refl _ _⟩
        · intro ρ W1 hb1 H d hd
          have hd' : (some 81 : Option Tmp) = some d := hd
          injection hd' with hd'
          subst hd'
          refine ⟨fun _ => ?_, fun hne => absurd (H.new 81 6 (by kernel_rfl)) hne⟩
          exact gives_move rfl (H.new 82 7 (by kernel_rfl)) ⟨rfl, Below.refl _ _⟩
        · intro ρ W1 hb1 H d hd
          have hd' : (some 83 : Option Tmp) = some d := hd
          injection hd' with hd'
          subst hd'
          exact ⟨(fun hh => by cases hh.symm.trans (H.new 83 8 (by kernel_rfl))), fun _ => trivial⟩
        · intro ρ W1 hb1 H d hd
          have hd' : (some 83 : Option Tmp) = some d := hd
          injection hd' with hd'
          subst hd'
          exact ⟨(fun hh => by cases hh.symm.trans (H.new 83 8 (by kernel_rfl))), fun _ => trivial⟩
        · intro ρ W1 hb1 H d hd
          have hd' : (some 83 : Option Tmp) = some d := hd
          injection hd' with hd'
          subst hd'
          exact ⟨(fun hh => by cases hh.symm.trans (H.new 83 8 (by kernel_rfl))), fun _ => trivial⟩
        · intro ρ W1 hb1 H d hd
          have hd' : (some 81 : Option Tmp) = some d := hd
          injection hd' with hd'
          subst hd'
          refine ⟨fun _ => ?_, fun hne => absurd (H.new 81 6 (by kernel_rfl)) hne⟩
          exact gives_pick_f rfl (H.new 83 8 (by kernel_rfl)) (H.const _) ⟨rfl, Below.refl _ _⟩
        · intro ρ W1 hb1 H d hd
          have hd' : (some 81 : Option Tmp) = some d := hd
          injection hd' with hd'
          subst hd'
          refine ⟨fun _ => ?_, fun hne => absurd (H.new 81 6 (by kernel_rfl)) hne⟩
          exact gives_move rfl (H.new 87 12 (by kernel_rfl)) ⟨rfl, Below.refl _ _⟩
        · intro ρ W1 hb1 H d hd
          have hd' : (some 88 : Option Tmp) = some d := hd
          injection hd' with hd'
          subst hd'
          exact ⟨(fun hh => by cases hh.symm.trans (H.new 88 13 (by kernel_rfl))), fun _ => trivial⟩
        · intro ρ W1 hb1 H d hd
          have hd' : (some 88 : Option Tmp) = some d := hd
          injection hd' with hd'
          subst hd'
          exact ⟨(fun hh => by cases hh.symm.trans (H.new 88 13 (by kernel_rfl))), fun _ => trivial⟩
        · intro ρ W1 hb1 H d hd
          have hd' : (some 81 : Option Tmp) = some d := hd
          injection hd' with hd'
          subst hd'
          refine ⟨fun _ => ?_, fun hne => absurd (H.new 81 6 (by kernel_rfl)) hne⟩
          exact gives_pick_f rfl (H.new 88 13 (by kernel_rfl)) (H.const _) ⟨rfl, Below.refl _ _⟩
        · intro ρ W1 hb1 H d hd
          have hd' : (some 81 : Option Tmp) = some d := hd
          injection hd' with hd'
          subst hd'
          refine ⟨fun _ => ?_, fun hne => absurd (H.new 81 6 (by kernel_rfl)) hne⟩
          exact gives_move rfl (H.new 91 16 (by kernel_rfl)) ⟨rfl, Below.refl _ _⟩
        · intro ρ W1 hb1 H d hd
          have hd' : (some 92 : Option Tmp) = some d := hd
          injection hd' with hd'
          subst hd'
          refine ⟨fun _ => ?_, fun hne => absurd (H.new 92 17 (by kernel_rfl)) hne⟩
          exact gives_move rfl (H.old 14 _ (by kernel_rfl) rfl) ⟨rfl, Below.refl _ _⟩
        · intro ρ W1 hb1 H d hd
          have hd' : (some 92 : Option Tmp) = some d := hd
          injection hd' with hd'
          subst hd'
          refine ⟨fun _ => ?_, fun hne => absurd (H.new 92 17 (by kernel_rfl)) hne⟩
          exact gives_notF (b := false) rfl (H.new 93 18 (by kernel_rfl)) ⟨rfl, Below.refl _ _⟩
        · intro ρ W1 hb1 H d hd
          have hd' : (some 92 : Option Tmp) = some d := hd
          injection hd' with hd'
          subst hd'
          refine ⟨fun _ => ?_, fun hne => absurd (H.new 92 17 (by kernel_rfl)) hne⟩
          exact gives_move rfl (H.new 94 19 (by kernel_rfl)) ⟨rfl, Below.refl _ _⟩
        · intro ρ W1 hb1 H d hd
          have hd' : (some 95 : Option Tmp) = some d := hd
          injection hd' with hd'
          subst hd'
          refine ⟨fun _ => ?_, fun hne => absurd (H.new 95 20 (by kernel_rfl)) hne⟩
          exact gives_move rfl (H.old 13 _ (by kernel_rfl) rfl) ⟨rfl, Below.refl _ _⟩
        · intro ρ W1 hb1 H d hd
          have hd' : (some 95 : Option Tmp) = some d := hd
          injection hd' with hd'
          subst hd'
          refine ⟨fun _ => ?_, fun hne => absurd (H.new 95 20 (by kernel_rfl)) hne⟩
          exact gives_inteq rfl (H.new 96 21 (by kernel_rfl)) (H.const _) ⟨by simp [facts, Fact.is], Below.refl _ _⟩
        · intro ρ W1 hb1 H d hd
          have hd' : (some 92 : Option Tmp) = some d := hd
          injection hd' with hd'
          subst hd'
          refine ⟨fun _ => ?_, fun hne => absurd (H.new 92 17 (by kernel_rfl)) hne⟩
          exact gives_pick_t rfl (H.new 95 20 (by kernel_rfl)) (H.new 97 22 (by kernel_rfl)) ⟨rfl, Below.refl _ _⟩
        · intro ρ W1 hb1 H d hd
          have hd' : (some 81 : Option Tmp) = some d := hd
          injection hd' with hd'
          subst hd'
          refine ⟨fun _ => ?_, fun hne => absurd (H.new 81 6 (by kernel_rfl)) hne⟩
          exact gives_pick_f rfl (H.new 92 17 (by kernel_rfl)) (H.new 98 23 (by kernel_rfl)) ⟨rfl, Below.refl _ _⟩
        · intro ρ W1 hb1 H
          exact gives_pick_t rfl (H.new 81 6 (by kernel_rfl)) (H.new 99 24 (by kernel_rfl)) ⟨rfl, Below.refl _ _⟩
        · intro ρ W1 hb1 H
          exact gives_assign rfl (H.new 100 25 (by kernel_rfl)) ⟨rfl, Below.refl _ _⟩
        · intro vs W1 hb1 hfs
          have f26 : vs 26 = .bool true := hfs 26 (by decide)
          clear hfs
          simp only [putAll, Nat.zero_add, Nat.reduceAdd]
          generalize vs 0 = z0
          generalize vs 1 = z1
          generalize vs 2 = z2
          generalize vs 3 = z3
          generalize vs 4 = z4
          generalize vs 5 = z5
          generalize vs 6 = z6
          generalize vs 7 = z7
          generalize vs 8 = z8
          generalize vs 9 = z9
          generalize vs 10 = z10
          generalize vs 11 = z11
          generalize vs 12 = z12
          generalize vs 13 = z13
          generalize vs 14 = z14
          generalize vs 15 = z15
          generalize vs 16 = z16
          generalize vs 17 = z17
          generalize vs 18 = z18
          generalize vs 19 = z19
          generalize vs 20 = z20
          generalize vs 21 = z21
          generalize vs 22 = z22
          generalize vs 23 = z23
          generalize vs 24 = z24
          generalize vs 25 = z25
          simp only [f26, Act.put, List.setIfInBounds_toArray, List.set_cons_succ, List.set_cons_zero]
          clear f26
          have HB := Lib.hid (below_then HB.out hb1)
          clear hb1
          go_wp2
          go_ret
          exact ⟨rfl, HB.out⟩
      | true =>
        obtain ⟨rfl, rfl, rfl, rfl, rfl, rfl, rfl, rfl, rfl, rfl, rfl⟩ := S5.out rfl
        go_wp2_with fail
        refine wp_region_list [.bytes (lg), .is (.string ⟨(lg).toArray⟩), .is (.agg #[.int .i64 gc, .bool gh, .bool lb, .int .i64 ln, .string ks, .bool mb, .int .i64 mn, .string js, .int .i64 gs, .bool go]), .bytes (lg), .is (.string ⟨(lg).toArray⟩), .is (.bool true), .is (.bool true), .is (.bool true), .is (.bool true), .is (.agg #[.int .i64 gc, .bool gh, .bool lb, .int .i64 ln, .string ks, .bool mb, .int .i64 mn, .string js, .int .i64 gs, .bool go]), .is (.agg #[.int .i64 gc, .bool gh, .bool lb, .int .i64 ln, .string ks, .bool mb, .int .i64 mn, .string js, .int .i64 gs, .bool go]), .is (.bool true), .is (.bool true), .is (.bool true), .is (.int .i64 0), .is (.bool true), .is (.bool true), .is (.bool true), .any, .any, .is (undef), .any, .any, .any, .is (.bool true), .is (.bool true), .is (.bool true)] [some 75, some 76, some 77, some 78, some 79, some 80, some 81, some 82, some 83, some 84, some 85, some 86, some 87, some 88, some 89, some 90, some 91, some 92, some 93, some 94, some 95, some 96, some 97, some 98, some 99, some 100, some 16] (by kernel_rfl) (by kernel_rfl) (by kernel_rfl) rfl ⟨?_, ?_, ?_, ?_, ?_, ?_, ?_, ?_, ?_, ?_, ?_, ?_, ?_, ?_, ?_, ?_, ?_, ?_, ?_, ?_, ?_, ?_, ?_, ?_, ?_, ?_, ?_, trivial⟩ ?_
        · intro ρ W1 hb1 H
          exact gives_move rfl (H.old 9 _ (by kernel_rfl) rfl) ⟨IsV.below (f := bv) HBG.out hb1, Below.refl _ _⟩
        · intro ρ W1 hb1 H
          have hB : IsB (lg) (ρ (.tmp 75)) W1 := H.new 75 0 (by kernel_rfl)
          exact gives_convert rfl rfl (hB.text _ _ _ Tryd.underlying22 Tryd.underlying5 Tryd.underlying9) ⟨rfl, Below.refl _ _⟩
        · intro ρ W1 hb1 H
          exact gives_load_row (cs := [.int .i64 gc, .bool gh, .bool lb, .int .i64 ln, .string ks, .bool mb, .int .i64 mn, .string js, .int .i64 gs, .bool go]) rfl (H.old 5 _ (by kernel_rfl) rfl) Tryd.underlying36 rfl fstI_size (HRS.out.below hb1 HRS.out.lt) ⟨rfl, Below.refl _ _⟩
        · intro ρ W1 hb1 H
          have e0 : ρ (.tmp 77) = .agg #[.int .i64 gc, .bool gh, .bool lb, .int .i64 ln, .string ks, .bool mb, .int .i64 mn, .string js, .int .i64 gs, .bool go] := H.new 77 2 (by kernel_rfl)
          refine gives_call rfl (fun _ _ => by kernel_rfl) (H.func _) (args := #[.agg #[.int .i64 gc, .bool gh, .bool lb, .int .i64 ln, .string ks, .bool mb, .int .i64 mn, .string js, .int .i64 gs, .bool go]]) (by simp [e0]) ?_
          exact (S2.out W1).mono fun e w' ⟨⟨u, h1, h2⟩, h3⟩ => ⟨u, h1, h2, h3⟩
        · intro ρ W1 hb1 H
          have hB : IsB (lg) (ρ (.tmp 78)) W1 := H.new 78 3 (by kernel_rfl)
          exact gives_convert rfl rfl (hB.text _ _ _ Tryd.underlying22 Tryd.underlying5 Tryd.underlying9) ⟨rfl, Below.refl _ _⟩
        · intro ρ W1 hb1 H
          exact gives_texteq (a := lg) (b := lg) rfl (H.new 76 1 (by kernel_rfl)) (H.new 79 4 (by kernel_rfl)) ⟨by simp [facts, Fact.is], Below.refl _ _⟩
        · intro ρ W1 hb1 H
          exact gives_move rfl (H.new 80 5 (by kernel_rfl)) ⟨rfl, Below.refl _ _⟩
        · intro ρ W1 hb1 H d hd
          have hd' : (some 81 : Option Tmp) = some d := hd
          injection hd' with hd'
          subst hd'
          refine ⟨fun _ => ?_, fun hne => absurd (H.new 81 6 (by kernel_rfl)) hne⟩
          exact gives_move rfl (H.old 14 _ (by kernel_rfl) rfl) ⟨rfl, Below.refl _ _⟩
        · intro ρ W1 hb1 H d hd
          have hd' : (some 81 : Option Tmp) = some d := hd
          injection hd' with hd'
          subst hd'
          refine ⟨fun _ => ?_, fun hne => absurd (H.new 81 6 (by kernel_rfl)) hne⟩
          exact gives_move rfl (H.new 82 7 (by kernel_rfl)) ⟨rfl, Below.refl _ _⟩
        · intro ρ W1 hb1 H d hd
          have hd' : (some 83 : Option Tmp) = some d := hd
          injection hd' with hd'
          subst hd'
          refine ⟨fun _ => ?_, fun hne => absurd (H.new 83 8 (by kernel_rfl)) hne⟩
          exact gives_load_row (cs := [.int .i64 gc, .bool gh, .bool lb, .int .i64 ln, .string ks, .bool mb, .int .i64 mn, .string js, .int .i64 gs, .bool go]) rfl (H.old 12 _ (by kernel_rfl) rfl) Tryd.underlying36 rfl fstI_size (HR2.out.below hb1 HR2.out.lt) ⟨rfl, Below.refl _ _⟩
        · intro ρ W1 hb1 H d hd
          have hd' : (some 83 : Option Tmp) = some d := hd
          injection hd' with hd'
          subst hd'
          refine ⟨fun _ => ?_, fun hne => absurd (H.new 83 8 (by kernel_rfl)) hne⟩
          exact gives_load_row (cs := [.int .i64 gc, .bool gh, .bool lb, .int .i64 ln, .string ks, .bool mb, .int .i64 mn, .string js, .int .i64 gs, .bool go]) rfl (H.old 5 _ (by kernel_rfl) rfl) Tryd.underlying36 rfl fstI_size (HRS.out.below hb1 HRS.out.lt) ⟨rfl, Below.refl _ _⟩
        · intro ρ W1 hb1 H d hd
          have hd' : (some 83 : Option Tmp) = some d := hd
          injection hd' with hd'
          subst hd'
          refine ⟨fun _ => ?_, fun hne => absurd (H.new 83 8 (by kernel_rfl)) hne⟩
          exact gives_eqSF (G := (⟨gc, gh, ⟨lb, ln, ks⟩, ⟨mb, mn, js⟩, gs, go⟩ : GS)) rfl (H.new 84 9 (by kernel_rfl)) (H.new 85 10 (by kernel_rfl)) ⟨rfl, Below.refl _ _⟩
        · intro ρ W1 hb1 H d hd
          have hd' : (some 81 : Option Tmp) = some d := hd
          injection hd' with hd'
          subst hd'
          refine ⟨fun _ => ?_, fun hne => absurd (H.new 81 6 (by kernel_rfl)) hne⟩
          exact gives_pick_t rfl (H.new 83 8 (by kernel_rfl)) (H.new 86 11 (by kernel_rfl)) ⟨rfl, Below.refl _ _⟩
        · intro ρ W1 hb1 H d hd
          have hd' : (some 81 : Option Tmp) = some d := hd
          injection hd' with hd'
          subst hd'
          refine ⟨fun _ => ?_, fun hne => absurd (H.new 81 6 (by kernel_rfl)) hne⟩
          exact gives_move rfl (H.new 87 12 (by kernel_rfl)) ⟨rfl, Below.refl _ _⟩
        · intro ρ W1 hb1 H d hd
          have hd' : (some 88 : Option Tmp) = some d := hd
          injection hd' with hd'
          subst hd'
          refine ⟨fun _ => ?_, fun hne => absurd (H.new 88 13 (by kernel_rfl)) hne⟩
          exact gives_move rfl (H.old 13 _ (by kernel_rfl) rfl) ⟨rfl, Below.refl _ _⟩
        · intro ρ W1 hb1 H d hd
          have hd' : (some 88 : Option Tmp) = some d := hd
          injection hd' with hd'
          subst hd'
          refine ⟨fun _ => ?_, fun hne => absurd (H.new 88 13 (by kernel_rfl)) hne⟩
          exact gives_inteq rfl (H.new 89 14 (by kernel_rfl)) (H.const _) ⟨by simp [facts, Fact.is], Below.refl _ _⟩
        · intro ρ W1 hb1 H d hd
          have hd' : (some 81 : Option Tmp) = some d := hd
          injection hd' with hd'
          subst hd'
          refine ⟨fun _ => ?_, fun hne => absurd (H.new 81 6 (by kernel_rfl)) hne⟩
          exact gives_pick_t rfl (H.new 88 13 (by kernel_rfl)) (H.new 90 15 (by kernel_rfl)) ⟨rfl, Below.refl _ _⟩
        · intro ρ W1 hb1 H d hd
          have hd' : (some 81 : Option Tmp) = some d := hd
          injection hd' with hd'
          subst hd'
          refine ⟨fun _ => ?_, fun hne => absurd (H.new 81 6 (by kernel_rfl)) hne⟩
          exact gives_move rfl (H.new 91 16 (by kernel_rfl)) ⟨rfl, Below.refl _ _⟩
        · intro ρ W1 hb1 H d hd
          have hd' : (some 92 : Option Tmp) = some d := hd
          injection hd' with hd'
          subst hd'
          exact ⟨(fun hh => by cases hh.symm.trans (H.new 92 17 (by kernel_rfl))), fun _ => trivial⟩
        · intro ρ W1 hb1 H d hd
          have hd' : (some 92 : Option Tmp) = some d := hd
          injection hd' with hd'
          subst hd'
          exact ⟨(fun hh => by cases hh.symm.trans (H.new 92 17 (by kernel_rfl))), fun _ => trivial⟩
        · intro ρ W1 hb1 H d hd
          have hd' : (some 92 : Option Tmp) = some d := hd
          injection hd' with hd'
          subst hd'
          exact ⟨(fun hh => by cases hh.symm.trans (H.new 92 17 (by kernel_rfl))), fun _ => rfl⟩
        · intro ρ W1 hb1 H d hd
          have hd' : (some 95 : Option Tmp) = some d := hd
          injection hd' with hd'
          subst hd'
          exact ⟨(fun hh => by cases hh.symm.trans (H.new 95 20 (by kernel_rfl))), fun _ => trivial⟩
        · intro ρ W1 hb1 H d hd
          have hd' : (some 95 : Option Tmp) = some d := hd
          injection hd' with hd'
          subst hd'
          exact ⟨(fun hh => by cases hh.symm.trans (H.new 95 20 (by kernel_rfl))), fun _ => trivial⟩
        · intro ρ W1 hb1 H d hd
          have hd' : (some 92 : Option Tmp) = some d := hd
          injection hd' with hd'
          subst hd'
          exact ⟨(fun hh => by cases hh.symm.trans (H.new 92 17 (by kernel_rfl))), fun _ => trivial⟩
        · intro ρ W1 hb1 H d hd
          have hd' : (some 81 : Option Tmp) = some d := hd
          injection hd' with hd'
          subst hd'
          refine ⟨fun _ => ?_, fun hne => absurd (H.new 81 6 (by kernel_rfl)) hne⟩
          exact gives_pick_t rfl (H.new 92 17 (by kernel_rfl)) (H.const _) ⟨rfl, Below.refl _ _⟩
        · intro ρ W1 hb1 H
          exact gives_pick_t rfl (H.new 81 6 (by kernel_rfl)) (H.new 99 24 (by kernel_rfl)) ⟨rfl, Below.refl _ _⟩
        · intro ρ W1 hb1 H
          exact gives_assign rfl (H.new 100 25 (by kernel_rfl)) ⟨rfl, Below.refl _ _⟩
        · intro vs W1 hb1 hfs
          have f26 : vs 26 = .bool true := hfs 26 (by decide)
          clear hfs
          simp only [putAll, Nat.zero_add, Nat.reduceAdd]
          generalize vs 0 = z0
          generalize vs 1 = z1
          generalize vs 2 = z2
          generalize vs 3 = z3
          generalize vs 4 = z4
          generalize vs 5 = z5
          generalize vs 6 = z6
          generalize vs 7 = z7
          generalize vs 8 = z8
          generalize vs 9 = z9
          generalize vs 10 = z10
          generalize vs 11 = z11
          generalize vs 12 = z12
          generalize vs 13 = z13
          generalize vs 14 = z14
          generalize vs 15 = z15
          generalize vs 16 = z16
          generalize vs 17 = z17
          generalize vs 18 = z18
          generalize vs 19 = z19
          generalize vs 20 = z20
          generalize vs 21 = z21
          generalize vs 22 = z22
          generalize vs 23 = z23
          generalize vs 24 = z24
          generalize vs 25 = z25
          simp only [f26, Act.put, List.setIfInBounds_toArray, List.set_cons_succ, List.set_cons_zero]
          clear f26
          have HB := Lib.hid (below_then HB.out hb1)
          clear hb1
          go_wp2
          go_ret
          exact ⟨rfl, HB.out⟩
set_option maxRecDepth 100000 in
theorem WireValues_lifted (os : Os) (started : os.Started) (H : Type) (enc : TypeId × Value → H) :
    ReturnsInHanded {} Tryd.checked os 4 .any (fun w args => (Rows.wireValuesSpec.pre enc Tryd.prog Tryd.f4 [] false w args ∧ laidMetH Tryd.prog [("unicode/utf8.acceptRanges", Rows.laid_unicode_utf8_acceptRanges), ("unicode/utf8.first", Rows.laid_unicode_utf8_first)] w) ∧ sizedMet enc Tryd.prog Tryd.f4 (OpenSpec.ofChange Rows.wireValuesSpec) false w args) (Rows.wireValuesSpec.post enc Tryd.prog Tryd.f4 false true false false) := by
  refine returnsInHanded_of_change_and (C := Tryd.checked) (X := fun w _ => laidMetH Tryd.prog [("unicode/utf8.acceptRanges", Rows.laid_unicode_utf8_acceptRanges), ("unicode/utf8.first", Rows.laid_unicode_utf8_first)] w) (fun _ _ _ hh h => h.of_heap hh) own started (by kernel_rfl) Tryd.func4
    (ChangeSpec.witness_shaped (enc := enc) (C := Tryd.checked) (os := os) (X := fun w _ => laidMetH Tryd.prog [("unicode/utf8.acceptRanges", Rows.laid_unicode_utf8_acceptRanges), ("unicode/utf8.first", Rows.laid_unicode_utf8_first)] w) false (World.laidAll Tryd.prog os [("unicode/utf8.acceptRanges", Rows.laid_unicode_utf8_acceptRanges), ("unicode/utf8.first", Rows.laid_unicode_utf8_first)]) #[.agg #[.bool false, .int .i64 0, .string ⟨#[]⟩], .int .i64 0, .agg #[.int .i64 0, .bool false, .bool false, .int .i64 0, .string ⟨#[]⟩, .bool false, .int .i64 0, .string ⟨#[]⟩, .int .i64 0, .bool false]] 8 (World.laidAll_os _ _ _) (World.shaped_of_ZipB (by kernel_rfl) (by kernel_rfl)) (by kernel_rfl) (by kernel_rfl) (by kernel_rfl) (by rw [MakeChecks.laidMetH_plain _ _ _ (by kernel_rfl)]; exact laidMet_laidAll _ (by kernel_rfl) (by kernel_rfl))) ?_
  intro W base args ds gs before hval0 hW _ hsz hL _
  have hT := u8_of hL
  clear hL
  have hval : ∀ (j : Nat) t v, Tryd.f4.params[j]? = some t → args[j]? = some v → Value.okWide Tryd.prog W .any base t v := hval0
  have hW' := hW
  obtain ⟨p, q, hT0, hV, rfl, hfz, hnd⟩ := hW
  have hA : DataW.TrodAll enc Tryd.prog W 0 (fun _ => true) true Tryd.f4.params.toList args.toList ds p := hT0
  rw [Tryd.params4] at hA hval
  obtain ⟨v0, vs0, d0, ds0, p0, q0, hargs, rfl, rfl, h0, r0⟩ := trodAll_cons hA
  obtain ⟨v1, vs1, d1, ds1, p1, q1, rfl, rfl, rfl, h1, r1⟩ := trodAll_cons r0
  obtain ⟨v2, vs2, d2, ds2, p2, q2, rfl, rfl, rfl, h2, r2⟩ := trodAll_cons r1
  obtain ⟨rfl, rfl, rfl⟩ := trodAll_nil r2
  obtain rfl : args = #[v0, v1, v2] := by cases args; simp_all
  obtain ⟨rfl, rfl⟩ := trodVars_none hV
  obtain ⟨c0, rfl, wi0, ws0⟩ := open_val (hval 0 32 v0 rfl rfl) h0
  obtain ⟨a1, rfl, rfl, rfl, w1⟩ := open_int Tryd.underlying3 (hval 1 3 v1 rfl rfl) h1
  obtain ⟨S2, rfl, hS2, hm2, hx2⟩ := open_stats (hval 2 36 v2 rfl rfl) h2
  clear hT0 hval0
  refine (WireValues_walk W hT c0 wi0 ws0 a1 (wf_i64 w1).1 (wf_i64 w1).2 S2 hS2 hm2 hx2).mono fun e W' ⟨he, hb⟩ => ?_
  subst he
  exact ⟨_, rfl, law_post laidOut Tryd.underlying4 (by kernel_rfl) (by kernel_rfl) rfl hW' rfl hb⟩

theorem WireValues_over : Rows.wireValuesRow.holds Tryd.pinned (OpenSpec.ofChange Rows.wireValuesSpec) :=
  OpenClaim.holds_of_wide 4 Tryd.f4 rfl rfl rfl rfl rfl rfl rfl ⟨rfl, rfl, rfl, rfl, rfl⟩ rfl rfl rfl rfl rfl (by kernel_rfl) Tryd.func4 (by kernel_rfl)
    (of_decide_eq_true (by kernel_rfl)) (by unfold Func.isWrapper; first | (rw [if_pos (by decide +kernel)]; kernel_rfl) | (rw [if_neg (by decide +kernel)]; exact ⟨rfl, rfl⟩))
    (fun os started H enc _ => WireValues_lifted os started H enc)

theorem WireValues_holds : Rows.WireValuesCardSaid :=
  Claim7.holds_tied_plain_at .later [] _ true _ _ WireValues_over (fun _ h => by cases h) (by kernel_rfl) (fun _ h => by cases h) wireValues_row_tie rfl ⟨rfl, rfl⟩ (by kernel_rfl) rfl
    (fun f fn hf hfn => by
      obtain rfl : f = 4 := Option.some.inj ((show Tryd.prog.funcNamed "pilaster/pilasterlaw19.WireValues" = some 4 by kernel_rfl).symm.trans hf) |>.symm
      obtain rfl : fn = Tryd.f4 := (Option.some.inj (Tryd.func4.symm.trans hfn)).symm
      exact ⟨by kernel_rfl, fun j t ht => stand_ins (by kernel_rfl) ht⟩)
    (by kernel_rfl)
#print axioms WireValues_holds

end Go.Proofs.YtocodcceimeiiaaDoor
