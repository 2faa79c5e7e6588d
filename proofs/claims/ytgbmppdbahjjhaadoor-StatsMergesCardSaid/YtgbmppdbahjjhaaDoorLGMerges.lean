
/- The statement StatsMerges: for any kind and any two that may be known the law answers true. No condition. Written by gen_gmerges.py. -/

import Derived.StillTailTactics
import Derived.Test.YtgbmppdbahjjhaaDoorG4
namespace Go.Proofs.YtgbmppdbahjjhaaDoor

open Go.RowKit Go.ChangeShapes Go.WideShapes Go.ChangeAt

theorem infoS_size : (Tryd.prog.info? 28).map (·.size) = some 10 := by kernel_rfl
theorem gives_notG {P : Program} {o : Oper} {ρ : Operand → Value} {w : World} {R : Value → World → Prop} {t : TypeId} {x : Operand} {b : Bool} (ho : o.op = .unOp .not t x) (hx : ρ x = .bool b) (hR : R (.bool !b) w) : Gives P o ρ w R := by
  refine gives_of (v := .bool !b) (w' := w) ?_ hR
  unfold execOp
  simp only [ho, hx]
  rfl
theorem gives_eqSS {o : Oper} {ρ : Operand → Value} {w : World} {R : Value → World → Prop} {x y : Operand} {G : GS} (ho : o.op = .binOp .eql 28 x y 28) (hx : ρ x = gsv G) (hy : ρ y = gsv G)
    (hR : R (.bool true) w) : Gives Tryd.prog o ρ w R := by
  refine gives_of (v := .bool true) (w' := w) ?_ hR
  simp [execOp, ho, hx, hy, eqS_guard G G x y w, eqS_run G w]
theorem gmay_count {k : Int} {s : GS} (h : gmayE k s = true) : 0 ≤ s.count ∧ s.count ≤ 409600 := by
  unfold gmayE at h
  split at h
  · cases h
  · rename_i h2
    omega
set_option maxHeartbeats 8000000 in
set_option maxRecDepth 100000 in
theorem StatsMerges_walk (w : World) (hU : Tryd.U8 w) (k : Int) (_hk0 : -9223372036854775808 ≤ k) (_hk1 : k ≤ 9223372036854775807) (S1 : GS) (hS1 : S1.inInt) (hm1 : S1.min.s.size ≤ maxLen) (hx1 : S1.max.s.size ≤ maxLen) (S2 : GS) (hS2 : S2.inInt) (hm2 : S2.min.s.size ≤ maxLen) (hx2 : S2.max.s.size ≤ maxLen) :
    Calls Tryd.prog 4 #[.int .i64 k, gsv S1, gsv S2] w fun e w' => e = .returned (.bool true) ∧ Below w.heap.size w w' := by
  obtain ⟨ac, ah, ⟨amb, amn, ams⟩, ⟨axb, axn, axs⟩, asm, ao⟩ := S1
  obtain ⟨bc, bh, ⟨bmb, bmn, bms⟩, ⟨bxb, bxn, bxs⟩, bsm, bo⟩ := S2
  obtain ⟨p, hp⟩ : ∃ p, p = gmayE k ⟨ac, ah, ⟨amb, amn, ams⟩, ⟨axb, axn, axs⟩, asm, ao⟩ := ⟨_, rfl⟩
  obtain ⟨q, hq⟩ : ∃ q, q = gmayE k ⟨bc, bh, ⟨bmb, bmn, bms⟩, ⟨bxb, bxn, bxs⟩, bsm, bo⟩ := ⟨_, rfl⟩
  obtain ⟨G, hG⟩ : ∃ G, G = gmergeE k ⟨ac, ah, ⟨amb, amn, ams⟩, ⟨axb, axn, axs⟩, asm, ao⟩ ⟨bc, bh, ⟨bmb, bmn, bms⟩, ⟨bxb, bxn, bxs⟩, bsm, bo⟩ := ⟨_, rfl⟩
  have HM1 := Lib.hid (fun X (hX : Tryd.U8 X) => show Calls Tryd.prog 11 #[.int .i64 k, .agg #[.int .i64 ac, .bool ah, .bool amb, .int .i64 amn, .string ams, .bool axb, .int .i64 axn, .string axs, .int .i64 asm, .bool ao]] X fun e w' => e = .returned (.bool p) ∧ Below X.heap.size X w' from by rw [hp]; exact rmay17_any k ⟨ac, ah, ⟨amb, amn, ams⟩, ⟨axb, axn, axs⟩, asm, ao⟩ X hX hm1 hx1)
  have HM2 := Lib.hid (fun X (hX : Tryd.U8 X) => show Calls Tryd.prog 11 #[.int .i64 k, .agg #[.int .i64 bc, .bool bh, .bool bmb, .int .i64 bmn, .string bms, .bool bxb, .int .i64 bxn, .string bxs, .int .i64 bsm, .bool bo]] X fun e w' => e = .returned (.bool q) ∧ Below X.heap.size X w' from by rw [hq]; exact rmay17_any k ⟨bc, bh, ⟨bmb, bmn, bms⟩, ⟨bxb, bxn, bxs⟩, bsm, bo⟩ X hX hm2 hx2)
  have HP1 := Lib.hid (fun X (hX : Tryd.U8 X) => show Calls Tryd.prog 12 #[.int .i64 k, .agg #[.int .i64 ac, .bool ah, .bool amb, .int .i64 amn, .string ams, .bool axb, .int .i64 axn, .string axs, .int .i64 asm, .bool ao]] X fun e w' => e = .returned (.bool p) ∧ Below X.heap.size X w' from by rw [hp]; exact gmay_any k ⟨ac, ah, ⟨amb, amn, ams⟩, ⟨axb, axn, axs⟩, asm, ao⟩ X hX hS1 hm1 hx1)
  have HP2 := Lib.hid (fun X (hX : Tryd.U8 X) => show Calls Tryd.prog 12 #[.int .i64 k, .agg #[.int .i64 bc, .bool bh, .bool bmb, .int .i64 bmn, .string bms, .bool bxb, .int .i64 bxn, .string bxs, .int .i64 bsm, .bool bo]] X fun e w' => e = .returned (.bool q) ∧ Below X.heap.size X w' from by rw [hq]; exact gmay_any k ⟨bc, bh, ⟨bmb, bmn, bms⟩, ⟨bxb, bxn, bxs⟩, bsm, bo⟩ X hX hS2 hm2 hx2)
  have HG := Lib.hid (fun (h1 : p = true) (h2 : q = true) X (hX : Tryd.U8 X) => show Calls Tryd.prog 13 #[.int .i64 k, .agg #[.int .i64 ac, .bool ah, .bool amb, .int .i64 amn, .string ams, .bool axb, .int .i64 axn, .string axs, .int .i64 asm, .bool ao], .agg #[.int .i64 bc, .bool bh, .bool bmb, .int .i64 bmn, .string bms, .bool bxb, .int .i64 bxn, .string bxs, .int .i64 bsm, .bool bo]] X fun e w' => e = .returned (gsv G) ∧ Below X.heap.size X w' from by
    rw [hG]
    have c1 := gmay_count (hp.symm.trans h1)
    have c2 := gmay_count (hq.symm.trans h2)
    exact gmerge_any k ⟨ac, ah, ⟨amb, amn, ams⟩, ⟨axb, axn, axs⟩, asm, ao⟩ ⟨bc, bh, ⟨bmb, bmn, bms⟩, ⟨bxb, bxn, bxs⟩, bsm, bo⟩ X hX ⟨c1.1, by omega⟩ ⟨c2.1, by omega⟩ hS1 hS2 (gok_may (hp.symm.trans h1)) (gok_may (hq.symm.trans h2)))
  have HR := Lib.hid (fun (h1 : p = true) (h2 : q = true) X => show Calls Tryd.prog 14 #[.int .i64 k, .agg #[.int .i64 ac, .bool ah, .bool amb, .int .i64 amn, .string ams, .bool axb, .int .i64 axn, .string axs, .int .i64 asm, .bool ao], .agg #[.int .i64 bc, .bool bh, .bool bmb, .int .i64 bmn, .string bms, .bool bxb, .int .i64 bxn, .string bxs, .int .i64 bsm, .bool bo]] X fun e w' => e = .returned (gsv G) ∧ Below X.heap.size X w' from by
    rw [hG]
    have c1 := gmay_count (hp.symm.trans h1)
    have c2 := gmay_count (hq.symm.trans h2)
    exact rmerge17_any k ⟨ac, ah, ⟨amb, amn, ams⟩, ⟨axb, axn, axs⟩, asm, ao⟩ ⟨bc, bh, ⟨bmb, bmn, bms⟩, ⟨bxb, bxn, bxs⟩, bsm, bo⟩ X ⟨c1.1, by omega⟩ ⟨c2.1, by omega⟩ ⟨hS1.2.2.2.2.1, hS1.2.2.2.2.2⟩ ⟨hS2.2.2.2.2.1, hS2.2.2.2.2.2⟩)
  obtain ⟨W, hW⟩ : ∃ W, W = (w.alloc (.cells #[.int .i64 ac, .bool ah, .bool amb, .int .i64 amn, .string ams, .bool axb, .int .i64 axn, .string axs, .int .i64 asm, .bool ao] 28)).alloc (.cells #[.int .i64 bc, .bool bh, .bool bmb, .int .i64 bmn, .string bms, .bool bxb, .int .i64 bxn, .string bxs, .int .i64 bsm, .bool bo] 28) := ⟨_, rfl⟩
  have ra0 : Row (w.alloc (.cells #[.int .i64 ac, .bool ah, .bool amb, .int .i64 amn, .string ams, .bool axb, .int .i64 axn, .string axs, .int .i64 asm, .bool ao] 28)) w.heap.size 28 [.int .i64 ac, .bool ah, .bool amb, .int .i64 amn, .string ams, .bool axb, .int .i64 axn, .string axs, .int .i64 asm, .bool ao] := heap_alloc_new w _
  have RA0 : Hid (Row W w.heap.size 28 [.int .i64 ac, .bool ah, .bool amb, .int .i64 amn, .string ams, .bool axb, .int .i64 axn, .string axs, .int .i64 asm, .bool ao]) := Lib.hid (by rw [hW]; exact ra0.alloc _)
  have RB0 : Hid (Row W (w.heap.size + 1) 28 [.int .i64 bc, .bool bh, .bool bmb, .int .i64 bmn, .string bms, .bool bxb, .int .i64 bxn, .string bxs, .int .i64 bsm, .bool bo]) := Lib.hid (by
    rw [hW]
    have h : Row ((w.alloc (.cells #[.int .i64 ac, .bool ah, .bool amb, .int .i64 amn, .string ams, .bool axb, .int .i64 axn, .string axs, .int .i64 asm, .bool ao] 28)).alloc (.cells #[.int .i64 bc, .bool bh, .bool bmb, .int .i64 bmn, .string bms, .bool bxb, .int .i64 bxn, .string bxs, .int .i64 bsm, .bool bo] 28)) (w.alloc (.cells #[.int .i64 ac, .bool ah, .bool amb, .int .i64 amn, .string ams, .bool axb, .int .i64 axn, .string axs, .int .i64 asm, .bool ao] 28)).heap.size 28 [.int .i64 bc, .bool bh, .bool bmb, .int .i64 bmn, .string bms, .bool bxb, .int .i64 bxn, .string bxs, .int .i64 bsm, .bool bo] := heap_alloc_new _ _
    simpa using h)
  have HB0 : Hid (Below w.heap.size w W) := Lib.hid (by rw [hW]; exact ((Below.refl _ _).alloc (Nat.le_refl _) _).alloc (by simp) _)
  have HU0 := Lib.hid (Utf8Tabs_below hU HB0.out)
  have HS0 := Lib.hid (shown17_any W HU0.out)
  clear hp hq hG hU hS1 hS2 hm1 hm2 hx1 hx2 ra0 _hk0 _hk1
  unfold gsv gcells
  dsimp only
  subst hW
  go_enter Tryd.func4, Tryd.ntmps4
  go_wp2_with fail
  refine HS0.out.mono ?_
  rintro e w1 ⟨rfl, hb1⟩
  have HU1 := Lib.hid (Utf8Tabs_below HU0.out hb1)
  have RA1 := Lib.hid (RA0.out.below hb1 RA0.out.lt)
  have RB1 := Lib.hid (RB0.out.below hb1 RB0.out.lt)
  have HB1 := Lib.hid (below_then HB0.out hb1)
  clear hb1
  have a0 := RA1.out.cell 0
  have a1 := RA1.out.cell 1
  have a2 := RA1.out.cell 2
  have a3 := RA1.out.cell 3
  have a4 := RA1.out.cell 4
  have a5 := RA1.out.cell 5
  have a6 := RA1.out.cell 6
  have a7 := RA1.out.cell 7
  have a8 := RA1.out.cell 8
  have a9 := RA1.out.cell 9
  go_wp2_with fail
  refine (HM1.out w1 HU1.out).mono ?_
  rintro e w2 ⟨rfl, hb2⟩
  have HU2 := Lib.hid (Utf8Tabs_below HU1.out hb2)
  have RA2 := Lib.hid (RA1.out.below hb2 RA1.out.lt)
  have RB2 := Lib.hid (RB1.out.below hb2 RB1.out.lt)
  have HB2 := Lib.hid (below_then HB1.out hb2)
  clear hb2
  clear a0 a1 a2 a3 a4 a5 a6 a7 a8 a9
  have b0 := RB2.out.cell 0
  have b1 := RB2.out.cell 1
  have b2 := RB2.out.cell 2
  have b3 := RB2.out.cell 3
  have b4 := RB2.out.cell 4
  have b5 := RB2.out.cell 5
  have b6 := RB2.out.cell 6
  have b7 := RB2.out.cell 7
  have b8 := RB2.out.cell 8
  have b9 := RB2.out.cell 9
  go_wp2_with fail
  refine (HM2.out w2 HU2.out).mono ?_
  rintro e w3 ⟨rfl, hb3⟩
  have HU3 := Lib.hid (Utf8Tabs_below HU2.out hb3)
  have RA3 := Lib.hid (RA2.out.below hb3 RA2.out.lt)
  have RB3 := Lib.hid (RB2.out.below hb3 RB2.out.lt)
  have HB3 := Lib.hid (below_then HB2.out hb3)
  clear hb3
  clear b0 b1 b2 b3 b4 b5 b6 b7 b8 b9
  have a0 := RA3.out.cell 0
  have a1 := RA3.out.cell 1
  have a2 := RA3.out.cell 2
  have a3 := RA3.out.cell 3
  have a4 := RA3.out.cell 4
  have a5 := RA3.out.cell 5
  have a6 := RA3.out.cell 6
  have a7 := RA3.out.cell 7
  have a8 := RA3.out.cell 8
  have a9 := RA3.out.cell 9
  cases p with
  | false =>
    cases q with
    | false =>
      go_wp2_with fail
      refine (HP1.out w3 HU3.out).mono ?_
      rintro e w4 ⟨rfl, hb4⟩
      have HU4 := Lib.hid (Utf8Tabs_below HU3.out hb4)
      have RA4 := Lib.hid (RA3.out.below hb4 RA3.out.lt)
      have RB4 := Lib.hid (RB3.out.below hb4 RB3.out.lt)
      have HB4 := Lib.hid (below_then HB3.out hb4)
      clear hb4
      clear a0 a1 a2 a3 a4 a5 a6 a7 a8 a9
      have b0 := RB4.out.cell 0
      have b1 := RB4.out.cell 1
      have b2 := RB4.out.cell 2
      have b3 := RB4.out.cell 3
      have b4 := RB4.out.cell 4
      have b5 := RB4.out.cell 5
      have b6 := RB4.out.cell 6
      have b7 := RB4.out.cell 7
      have b8 := RB4.out.cell 8
      have b9 := RB4.out.cell 9
      go_wp2_with fail
      refine (HP2.out w4 HU4.out).mono ?_
      rintro e w5 ⟨rfl, hb5⟩
      have HU5 := Lib.hid (Utf8Tabs_below HU4.out hb5)
      have RA5 := Lib.hid (RA4.out.below hb5 RA4.out.lt)
      have RB5 := Lib.hid (RB4.out.below hb5 RB4.out.lt)
      have HB5 := Lib.hid (below_then HB4.out hb5)
      clear hb5
      clear b0 b1 b2 b3 b4 b5 b6 b7 b8 b9
      go_wp2_with fail
      refine wp_region_list [.is (.bool false), .is (.bool true), .is (.bool true), .any, .any, .is (.bool true), .is (.bool true), .any, .any, .any, .any, .any, .any, .any, .any, .any, .is (.bool true), .is (.bool true)] [some 33, some 34, some 35, some 36, some 37, some 38, some 39, some 40, some 41, some 42, some 43, some 44, some 45, some 46, some 47, some 48, some 49, some 6] (by kernel_rfl) (by kernel_rfl) (by kernel_rfl) rfl ⟨?_, ?_, ?_, ?_, ?_, ?_, ?_, ?_, ?_, ?_, ?_, ?_, ?_, ?_, ?_, ?_, ?_, ?_, trivial⟩ ?_
      · intro ρ W1 hb1 H
        exact gives_move rfl (H.old 8 _ (by kernel_rfl) rfl) ⟨rfl, Below.refl _ _⟩
      · intro ρ W1 hb1 H
        exact gives_notG rfl (H.new 33 0 (by kernel_rfl)) ⟨rfl, Below.refl _ _⟩
      · intro ρ W1 hb1 H
        exact gives_move rfl (H.new 34 1 (by kernel_rfl)) ⟨rfl, Below.refl _ _⟩
      · intro ρ W1 hb1 H d hd
        have hd' : (some 35 : Option Tmp) = some d := hd
        injection hd' with hd'
        subst hd'
        exact ⟨(fun hh => by cases hh.symm.trans (H.new 35 2 (by kernel_rfl))), fun _ => trivial⟩
      · intro ρ W1 hb1 H d hd
        have hd' : (some 35 : Option Tmp) = some d := hd
        injection hd' with hd'
        subst hd'
        exact ⟨(fun hh => by cases hh.symm.trans (H.new 35 2 (by kernel_rfl))), fun _ => trivial⟩
      · intro ρ W1 hb1 H
        exact gives_pick_t rfl (H.new 35 2 (by kernel_rfl)) (H.const _) ⟨rfl, Below.refl _ _⟩
      · intro ρ W1 hb1 H
        exact gives_move rfl (H.new 38 5 (by kernel_rfl)) ⟨rfl, Below.refl _ _⟩
      · intro ρ W1 hb1 H d hd
        have hd' : (some 39 : Option Tmp) = some d := hd
        injection hd' with hd'
        subst hd'
        exact ⟨(fun hh => by cases hh.symm.trans (H.new 39 6 (by kernel_rfl))), fun _ => trivial⟩
      · intro ρ W1 hb1 H d hd
        have hd' : (some 39 : Option Tmp) = some d := hd
        injection hd' with hd'
        subst hd'
        exact ⟨(fun hh => by cases hh.symm.trans (H.new 39 6 (by kernel_rfl))), fun _ => trivial⟩
      · intro ρ W1 hb1 H d hd
        have hd' : (some 39 : Option Tmp) = some d := hd
        injection hd' with hd'
        subst hd'
        exact ⟨(fun hh => by cases hh.symm.trans (H.new 39 6 (by kernel_rfl))), fun _ => trivial⟩
      · intro ρ W1 hb1 H d hd
        have hd' : (some 39 : Option Tmp) = some d := hd
        injection hd' with hd'
        subst hd'
        exact ⟨(fun hh => by cases hh.symm.trans (H.new 39 6 (by kernel_rfl))), fun _ => trivial⟩
      · intro ρ W1 hb1 H d hd
        have hd' : (some 39 : Option Tmp) = some d := hd
        injection hd' with hd'
        subst hd'
        exact ⟨(fun hh => by cases hh.symm.trans (H.new 39 6 (by kernel_rfl))), fun _ => trivial⟩
      · intro ρ W1 hb1 H d hd
        have hd' : (some 39 : Option Tmp) = some d := hd
        injection hd' with hd'
        subst hd'
        exact ⟨(fun hh => by cases hh.symm.trans (H.new 39 6 (by kernel_rfl))), fun _ => trivial⟩
      · intro ρ W1 hb1 H d hd
        have hd' : (some 39 : Option Tmp) = some d := hd
        injection hd' with hd'
        subst hd'
        exact ⟨(fun hh => by cases hh.symm.trans (H.new 39 6 (by kernel_rfl))), fun _ => trivial⟩
      · intro ρ W1 hb1 H d hd
        have hd' : (some 39 : Option Tmp) = some d := hd
        injection hd' with hd'
        subst hd'
        exact ⟨(fun hh => by cases hh.symm.trans (H.new 39 6 (by kernel_rfl))), fun _ => trivial⟩
      · intro ρ W1 hb1 H d hd
        have hd' : (some 39 : Option Tmp) = some d := hd
        injection hd' with hd'
        subst hd'
        exact ⟨(fun hh => by cases hh.symm.trans (H.new 39 6 (by kernel_rfl))), fun _ => trivial⟩
      · intro ρ W1 hb1 H
        exact gives_pick_t rfl (H.new 39 6 (by kernel_rfl)) (H.const _) ⟨rfl, Below.refl _ _⟩
      · intro ρ W1 hb1 H
        exact gives_assign rfl (H.new 49 16 (by kernel_rfl)) ⟨rfl, Below.refl _ _⟩
      · intro vs W1 hb1 hfs
        have f17 : vs 17 = .bool true := hfs 17 (by decide)
        clear hfs
        simp only [putAll, Nat.zero_add, Nat.reduceAdd]
        generalize vs 0 = z0
        generalize vs 1 = z1
        generalize vs 2 = z2
        generalize vs 3 = z3
        generalize vs 4 = z4
        generalize vs 5 = z5
        generalize vs 6 = z6
        generalize vs 7 = z7
        generalize vs 8 = z8
        generalize vs 9 = z9
        generalize vs 10 = z10
        generalize vs 11 = z11
        generalize vs 12 = z12
        generalize vs 13 = z13
        generalize vs 14 = z14
        generalize vs 15 = z15
        generalize vs 16 = z16
        simp only [f17, Act.put, List.setIfInBounds_toArray, List.set_cons_succ, List.set_cons_zero]
        clear f17
        have HB6 := Lib.hid (below_then HB5.out hb1)
        clear hb1
        go_wp2
        go_ret
        exact ⟨rfl, HB6.out⟩
    | true =>
      go_wp2_with fail
      refine (HP1.out w3 HU3.out).mono ?_
      rintro e w4 ⟨rfl, hb4⟩
      have HU4 := Lib.hid (Utf8Tabs_below HU3.out hb4)
      have RA4 := Lib.hid (RA3.out.below hb4 RA3.out.lt)
      have RB4 := Lib.hid (RB3.out.below hb4 RB3.out.lt)
      have HB4 := Lib.hid (below_then HB3.out hb4)
      clear hb4
      clear a0 a1 a2 a3 a4 a5 a6 a7 a8 a9
      have b0 := RB4.out.cell 0
      have b1 := RB4.out.cell 1
      have b2 := RB4.out.cell 2
      have b3 := RB4.out.cell 3
      have b4 := RB4.out.cell 4
      have b5 := RB4.out.cell 5
      have b6 := RB4.out.cell 6
      have b7 := RB4.out.cell 7
      have b8 := RB4.out.cell 8
      have b9 := RB4.out.cell 9
      go_wp2_with fail
      refine (HP2.out w4 HU4.out).mono ?_
      rintro e w5 ⟨rfl, hb5⟩
      have HU5 := Lib.hid (Utf8Tabs_below HU4.out hb5)
      have RA5 := Lib.hid (RA4.out.below hb5 RA4.out.lt)
      have RB5 := Lib.hid (RB4.out.below hb5 RB4.out.lt)
      have HB5 := Lib.hid (below_then HB4.out hb5)
      clear hb5
      clear b0 b1 b2 b3 b4 b5 b6 b7 b8 b9
      go_wp2_with fail
      refine wp_region_list [.is (.bool false), .is (.bool true), .is (.bool true), .any, .any, .is (.bool true), .is (.bool true), .any, .any, .any, .any, .any, .any, .any, .any, .any, .is (.bool true), .is (.bool true)] [some 33, some 34, some 35, some 36, some 37, some 38, some 39, some 40, some 41, some 42, some 43, some 44, some 45, some 46, some 47, some 48, some 49, some 6] (by kernel_rfl) (by kernel_rfl) (by kernel_rfl) rfl ⟨?_, ?_, ?_, ?_, ?_, ?_, ?_, ?_, ?_, ?_, ?_, ?_, ?_, ?_, ?_, ?_, ?_, ?_, trivial⟩ ?_
      · intro ρ W1 hb1 H
        exact gives_move rfl (H.old 8 _ (by kernel_rfl) rfl) ⟨rfl, Below.refl _ _⟩
      · intro ρ W1 hb1 H
        exact gives_notG rfl (H.new 33 0 (by kernel_rfl)) ⟨rfl, Below.refl _ _⟩
      · intro ρ W1 hb1 H
        exact gives_move rfl (H.new 34 1 (by kernel_rfl)) ⟨rfl, Below.refl _ _⟩
      · intro ρ W1 hb1 H d hd
        have hd' : (some 35 : Option Tmp) = some d := hd
        injection hd' with hd'
        subst hd'
        exact ⟨(fun hh => by cases hh.symm.trans (H.new 35 2 (by kernel_rfl))), fun _ => trivial⟩
      · intro ρ W1 hb1 H d hd
        have hd' : (some 35 : Option Tmp) = some d := hd
        injection hd' with hd'
        subst hd'
        exact ⟨(fun hh => by cases hh.symm.trans (H.new 35 2 (by kernel_rfl))), fun _ => trivial⟩
      · intro ρ W1 hb1 H
        exact gives_pick_t rfl (H.new 35 2 (by kernel_rfl)) (H.const _) ⟨rfl, Below.refl _ _⟩
      · intro ρ W1 hb1 H
        exact gives_move rfl (H.new 38 5 (by kernel_rfl)) ⟨rfl, Below.refl _ _⟩
      · intro ρ W1 hb1 H d hd
        have hd' : (some 39 : Option Tmp) = some d := hd
        injection hd' with hd'
        subst hd'
        exact ⟨(fun hh => by cases hh.symm.trans (H.new 39 6 (by kernel_rfl))), fun _ => trivial⟩
      · intro ρ W1 hb1 H d hd
        have hd' : (some 39 : Option Tmp) = some d := hd
        injection hd' with hd'
        subst hd'
        exact ⟨(fun hh => by cases hh.symm.trans (H.new 39 6 (by kernel_rfl))), fun _ => trivial⟩
      · intro ρ W1 hb1 H d hd
        have hd' : (some 39 : Option Tmp) = some d := hd
        injection hd' with hd'
        subst hd'
        exact ⟨(fun hh => by cases hh.symm.trans (H.new 39 6 (by kernel_rfl))), fun _ => trivial⟩
      · intro ρ W1 hb1 H d hd
        have hd' : (some 39 : Option Tmp) = some d := hd
        injection hd' with hd'
        subst hd'
        exact ⟨(fun hh => by cases hh.symm.trans (H.new 39 6 (by kernel_rfl))), fun _ => trivial⟩
      · intro ρ W1 hb1 H d hd
        have hd' : (some 39 : Option Tmp) = some d := hd
        injection hd' with hd'
        subst hd'
        exact ⟨(fun hh => by cases hh.symm.trans (H.new 39 6 (by kernel_rfl))), fun _ => trivial⟩
      · intro ρ W1 hb1 H d hd
        have hd' : (some 39 : Option Tmp) = some d := hd
        injection hd' with hd'
        subst hd'
        exact ⟨(fun hh => by cases hh.symm.trans (H.new 39 6 (by kernel_rfl))), fun _ => trivial⟩
      · intro ρ W1 hb1 H d hd
        have hd' : (some 39 : Option Tmp) = some d := hd
        injection hd' with hd'
        subst hd'
        exact ⟨(fun hh => by cases hh.symm.trans (H.new 39 6 (by kernel_rfl))), fun _ => trivial⟩
      · intro ρ W1 hb1 H d hd
        have hd' : (some 39 : Option Tmp) = some d := hd
        injection hd' with hd'
        subst hd'
        exact ⟨(fun hh => by cases hh.symm.trans (H.new 39 6 (by kernel_rfl))), fun _ => trivial⟩
      · intro ρ W1 hb1 H d hd
        have hd' : (some 39 : Option Tmp) = some d := hd
        injection hd' with hd'
        subst hd'
        exact ⟨(fun hh => by cases hh.symm.trans (H.new 39 6 (by kernel_rfl))), fun _ => trivial⟩
      · intro ρ W1 hb1 H
        exact gives_pick_t rfl (H.new 39 6 (by kernel_rfl)) (H.const _) ⟨rfl, Below.refl _ _⟩
      · intro ρ W1 hb1 H
        exact gives_assign rfl (H.new 49 16 (by kernel_rfl)) ⟨rfl, Below.refl _ _⟩
      · intro vs W1 hb1 hfs
        have f17 : vs 17 = .bool true := hfs 17 (by decide)
        clear hfs
        simp only [putAll, Nat.zero_add, Nat.reduceAdd]
        generalize vs 0 = z0
        generalize vs 1 = z1
        generalize vs 2 = z2
        generalize vs 3 = z3
        generalize vs 4 = z4
        generalize vs 5 = z5
        generalize vs 6 = z6
        generalize vs 7 = z7
        generalize vs 8 = z8
        generalize vs 9 = z9
        generalize vs 10 = z10
        generalize vs 11 = z11
        generalize vs 12 = z12
        generalize vs 13 = z13
        generalize vs 14 = z14
        generalize vs 15 = z15
        generalize vs 16 = z16
        simp only [f17, Act.put, List.setIfInBounds_toArray, List.set_cons_succ, List.set_cons_zero]
        clear f17
        have HB6 := Lib.hid (below_then HB5.out hb1)
        clear hb1
        go_wp2
        go_ret
        exact ⟨rfl, HB6.out⟩
  | true =>
    cases q with
    | false =>
      go_wp2_with fail
      refine (HP1.out w3 HU3.out).mono ?_
      rintro e w4 ⟨rfl, hb4⟩
      have HU4 := Lib.hid (Utf8Tabs_below HU3.out hb4)
      have RA4 := Lib.hid (RA3.out.below hb4 RA3.out.lt)
      have RB4 := Lib.hid (RB3.out.below hb4 RB3.out.lt)
      have HB4 := Lib.hid (below_then HB3.out hb4)
      clear hb4
      clear a0 a1 a2 a3 a4 a5 a6 a7 a8 a9
      have b0 := RB4.out.cell 0
      have b1 := RB4.out.cell 1
      have b2 := RB4.out.cell 2
      have b3 := RB4.out.cell 3
      have b4 := RB4.out.cell 4
      have b5 := RB4.out.cell 5
      have b6 := RB4.out.cell 6
      have b7 := RB4.out.cell 7
      have b8 := RB4.out.cell 8
      have b9 := RB4.out.cell 9
      go_wp2_with fail
      refine (HP2.out w4 HU4.out).mono ?_
      rintro e w5 ⟨rfl, hb5⟩
      have HU5 := Lib.hid (Utf8Tabs_below HU4.out hb5)
      have RA5 := Lib.hid (RA4.out.below hb5 RA4.out.lt)
      have RB5 := Lib.hid (RB4.out.below hb5 RB4.out.lt)
      have HB5 := Lib.hid (below_then HB4.out hb5)
      clear hb5
      clear b0 b1 b2 b3 b4 b5 b6 b7 b8 b9
      go_wp2_with fail
      refine wp_region_list [.is (.bool true), .is (.bool false), .is (.bool false), .is (.bool false), .is (.bool true), .is (.bool true), .is (.bool true), .any, .any, .any, .any, .any, .any, .any, .any, .any, .is (.bool true), .is (.bool true)] [some 33, some 34, some 35, some 36, some 37, some 38, some 39, some 40, some 41, some 42, some 43, some 44, some 45, some 46, some 47, some 48, some 49, some 6] (by kernel_rfl) (by kernel_rfl) (by kernel_rfl) rfl ⟨?_, ?_, ?_, ?_, ?_, ?_, ?_, ?_, ?_, ?_, ?_, ?_, ?_, ?_, ?_, ?_, ?_, ?_, trivial⟩ ?_
      · intro ρ W1 hb1 H
        exact gives_move rfl (H.old 8 _ (by kernel_rfl) rfl) ⟨rfl, Below.refl _ _⟩
      · intro ρ W1 hb1 H
        exact gives_notG rfl (H.new 33 0 (by kernel_rfl)) ⟨rfl, Below.refl _ _⟩
      · intro ρ W1 hb1 H
        exact gives_move rfl (H.new 34 1 (by kernel_rfl)) ⟨rfl, Below.refl _ _⟩
      · intro ρ W1 hb1 H d hd
        have hd' : (some 35 : Option Tmp) = some d := hd
        injection hd' with hd'
        subst hd'
        refine ⟨fun _ => ?_, fun hne => absurd (H.new 35 2 (by kernel_rfl)) hne⟩
        exact gives_move rfl (H.old 9 _ (by kernel_rfl) rfl) ⟨rfl, Below.refl _ _⟩
      · intro ρ W1 hb1 H d hd
        have hd' : (some 35 : Option Tmp) = some d := hd
        injection hd' with hd'
        subst hd'
        refine ⟨fun _ => ?_, fun hne => absurd (H.new 35 2 (by kernel_rfl)) hne⟩
        exact gives_notG rfl (H.new 36 3 (by kernel_rfl)) ⟨rfl, Below.refl _ _⟩
      · intro ρ W1 hb1 H
        exact gives_pick_f rfl (H.new 35 2 (by kernel_rfl)) (H.new 37 4 (by kernel_rfl)) ⟨rfl, Below.refl _ _⟩
      · intro ρ W1 hb1 H
        exact gives_move rfl (H.new 38 5 (by kernel_rfl)) ⟨rfl, Below.refl _ _⟩
      · intro ρ W1 hb1 H d hd
        have hd' : (some 39 : Option Tmp) = some d := hd
        injection hd' with hd'
        subst hd'
        exact ⟨(fun hh => by cases hh.symm.trans (H.new 39 6 (by kernel_rfl))), fun _ => trivial⟩
      · intro ρ W1 hb1 H d hd
        have hd' : (some 39 : Option Tmp) = some d := hd
        injection hd' with hd'
        subst hd'
        exact ⟨(fun hh => by cases hh.symm.trans (H.new 39 6 (by kernel_rfl))), fun _ => trivial⟩
      · intro ρ W1 hb1 H d hd
        have hd' : (some 39 : Option Tmp) = some d := hd
        injection hd' with hd'
        subst hd'
        exact ⟨(fun hh => by cases hh.symm.trans (H.new 39 6 (by kernel_rfl))), fun _ => trivial⟩
      · intro ρ W1 hb1 H d hd
        have hd' : (some 39 : Option Tmp) = some d := hd
        injection hd' with hd'
        subst hd'
        exact ⟨(fun hh => by cases hh.symm.trans (H.new 39 6 (by kernel_rfl))), fun _ => trivial⟩
      · intro ρ W1 hb1 H d hd
        have hd' : (some 39 : Option Tmp) = some d := hd
        injection hd' with hd'
        subst hd'
        exact ⟨(fun hh => by cases hh.symm.trans (H.new 39 6 (by kernel_rfl))), fun _ => trivial⟩
      · intro ρ W1 hb1 H d hd
        have hd' : (some 39 : Option Tmp) = some d := hd
        injection hd' with hd'
        subst hd'
        exact ⟨(fun hh => by cases hh.symm.trans (H.new 39 6 (by kernel_rfl))), fun _ => trivial⟩
      · intro ρ W1 hb1 H d hd
        have hd' : (some 39 : Option Tmp) = some d := hd
        injection hd' with hd'
        subst hd'
        exact ⟨(fun hh => by cases hh.symm.trans (H.new 39 6 (by kernel_rfl))), fun _ => trivial⟩
      · intro ρ W1 hb1 H d hd
        have hd' : (some 39 : Option Tmp) = some d := hd
        injection hd' with hd'
        subst hd'
        exact ⟨(fun hh => by cases hh.symm.trans (H.new 39 6 (by kernel_rfl))), fun _ => trivial⟩
      · intro ρ W1 hb1 H d hd
        have hd' : (some 39 : Option Tmp) = some d := hd
        injection hd' with hd'
        subst hd'
        exact ⟨(fun hh => by cases hh.symm.trans (H.new 39 6 (by kernel_rfl))), fun _ => trivial⟩
      · intro ρ W1 hb1 H
        exact gives_pick_t rfl (H.new 39 6 (by kernel_rfl)) (H.const _) ⟨rfl, Below.refl _ _⟩
      · intro ρ W1 hb1 H
        exact gives_assign rfl (H.new 49 16 (by kernel_rfl)) ⟨rfl, Below.refl _ _⟩
      · intro vs W1 hb1 hfs
        have f17 : vs 17 = .bool true := hfs 17 (by decide)
        clear hfs
        simp only [putAll, Nat.zero_add, Nat.reduceAdd]
        generalize vs 0 = z0
        generalize vs 1 = z1
        generalize vs 2 = z2
        generalize vs 3 = z3
        generalize vs 4 = z4
        generalize vs 5 = z5
        generalize vs 6 = z6
        generalize vs 7 = z7
        generalize vs 8 = z8
        generalize vs 9 = z9
        generalize vs 10 = z10
        generalize vs 11 = z11
        generalize vs 12 = z12
        generalize vs 13 = z13
        generalize vs 14 = z14
        generalize vs 15 = z15
        generalize vs 16 = z16
        simp only [f17, Act.put, List.setIfInBounds_toArray, List.set_cons_succ, List.set_cons_zero]
        clear f17
        have HB6 := Lib.hid (below_then HB5.out hb1)
        clear hb1
        go_wp2
        go_ret
        exact ⟨rfl, HB6.out⟩
    | true =>
      go_wp2_with fail
      refine (HP1.out w3 HU3.out).mono ?_
      rintro e w4 ⟨rfl, hb4⟩
      have HU4 := Lib.hid (Utf8Tabs_below HU3.out hb4)
      have RA4 := Lib.hid (RA3.out.below hb4 RA3.out.lt)
      have RB4 := Lib.hid (RB3.out.below hb4 RB3.out.lt)
      have HB4 := Lib.hid (below_then HB3.out hb4)
      clear hb4
      clear a0 a1 a2 a3 a4 a5 a6 a7 a8 a9
      have b0 := RB4.out.cell 0
      have b1 := RB4.out.cell 1
      have b2 := RB4.out.cell 2
      have b3 := RB4.out.cell 3
      have b4 := RB4.out.cell 4
      have b5 := RB4.out.cell 5
      have b6 := RB4.out.cell 6
      have b7 := RB4.out.cell 7
      have b8 := RB4.out.cell 8
      have b9 := RB4.out.cell 9
      go_wp2_with fail
      refine (HP2.out w4 HU4.out).mono ?_
      rintro e w5 ⟨rfl, hb5⟩
      have HU5 := Lib.hid (Utf8Tabs_below HU4.out hb5)
      have RA5 := Lib.hid (RA4.out.below hb5 RA4.out.lt)
      have RB5 := Lib.hid (RB4.out.below hb5 RB4.out.lt)
      have HB5 := Lib.hid (below_then HB4.out hb5)
      clear hb5
      clear b0 b1 b2 b3 b4 b5 b6 b7 b8 b9
      go_wp2_with fail
      refine wp_region_list [.is (.bool true), .is (.bool false), .is (.bool false), .is (.bool true), .is (.bool false), .is (.bool false), .is (.bool false), .is (.int .i64 k), .is (.agg #[.int .i64 ac, .bool ah, .bool amb, .int .i64 amn, .string ams, .bool axb, .int .i64 axn, .string axs, .int .i64 asm, .bool ao]), .is (.agg #[.int .i64 bc, .bool bh, .bool bmb, .int .i64 bmn, .string bms, .bool bxb, .int .i64 bxn, .string bxs, .int .i64 bsm, .bool bo]), .is (gsv G), .is (.int .i64 k), .is (.agg #[.int .i64 ac, .bool ah, .bool amb, .int .i64 amn, .string ams, .bool axb, .int .i64 axn, .string axs, .int .i64 asm, .bool ao]), .is (.agg #[.int .i64 bc, .bool bh, .bool bmb, .int .i64 bmn, .string bms, .bool bxb, .int .i64 bxn, .string bxs, .int .i64 bsm, .bool bo]), .is (gsv G), .is (.bool true), .is (.bool true), .is (.bool true)] [some 33, some 34, some 35, some 36, some 37, some 38, some 39, some 40, some 41, some 42, some 43, some 44, some 45, some 46, some 47, some 48, some 49, some 6] (by kernel_rfl) (by kernel_rfl) (by kernel_rfl) rfl ⟨?_, ?_, ?_, ?_, ?_, ?_, ?_, ?_, ?_, ?_, ?_, ?_, ?_, ?_, ?_, ?_, ?_, ?_, trivial⟩ ?_
      · intro ρ W1 hb1 H
        exact gives_move rfl (H.old 8 _ (by kernel_rfl) rfl) ⟨rfl, Below.refl _ _⟩
      · intro ρ W1 hb1 H
        exact gives_notG rfl (H.new 33 0 (by kernel_rfl)) ⟨rfl, Below.refl _ _⟩
      · intro ρ W1 hb1 H
        exact gives_move rfl (H.new 34 1 (by kernel_rfl)) ⟨rfl, Below.refl _ _⟩
      · intro ρ W1 hb1 H d hd
        have hd' : (some 35 : Option Tmp) = some d := hd
        injection hd' with hd'
        subst hd'
        refine ⟨fun _ => ?_, fun hne => absurd (H.new 35 2 (by kernel_rfl)) hne⟩
        exact gives_move rfl (H.old 9 _ (by kernel_rfl) rfl) ⟨rfl, Below.refl _ _⟩
      · intro ρ W1 hb1 H d hd
        have hd' : (some 35 : Option Tmp) = some d := hd
        injection hd' with hd'
        subst hd'
        refine ⟨fun _ => ?_, fun hne => absurd (H.new 35 2 (by kernel_rfl)) hne⟩
        exact gives_notG rfl (H.new 36 3 (by kernel_rfl)) ⟨rfl, Below.refl _ _⟩
      · intro ρ W1 hb1 H
        exact gives_pick_f rfl (H.new 35 2 (by kernel_rfl)) (H.new 37 4 (by kernel_rfl)) ⟨rfl, Below.refl _ _⟩
      · intro ρ W1 hb1 H
        exact gives_move rfl (H.new 38 5 (by kernel_rfl)) ⟨rfl, Below.refl _ _⟩
      · intro ρ W1 hb1 H d hd
        have hd' : (some 39 : Option Tmp) = some d := hd
        injection hd' with hd'
        subst hd'
        refine ⟨fun _ => ?_, fun hne => absurd (H.new 39 6 (by kernel_rfl)) hne⟩
        exact gives_move rfl (H.old 0 _ (by kernel_rfl) rfl) ⟨rfl, Below.refl _ _⟩
      · intro ρ W1 hb1 H d hd
        have hd' : (some 39 : Option Tmp) = some d := hd
        injection hd' with hd'
        subst hd'
        refine ⟨fun _ => ?_, fun hne => absurd (H.new 39 6 (by kernel_rfl)) hne⟩
        exact gives_load_row (cs := [.int .i64 ac, .bool ah, .bool amb, .int .i64 amn, .string ams, .bool axb, .int .i64 axn, .string axs, .int .i64 asm, .bool ao]) rfl (H.old 4 _ (by kernel_rfl) rfl) Tryd.underlying28 rfl infoS_size (RA5.out.below hb1 RA5.out.lt) ⟨rfl, Below.refl _ _⟩
      · intro ρ W1 hb1 H d hd
        have hd' : (some 39 : Option Tmp) = some d := hd
        injection hd' with hd'
        subst hd'
        refine ⟨fun _ => ?_, fun hne => absurd (H.new 39 6 (by kernel_rfl)) hne⟩
        exact gives_load_row (cs := [.int .i64 bc, .bool bh, .bool bmb, .int .i64 bmn, .string bms, .bool bxb, .int .i64 bxn, .string bxs, .int .i64 bsm, .bool bo]) rfl (H.old 5 _ (by kernel_rfl) rfl) Tryd.underlying28 rfl infoS_size (RB5.out.below hb1 RB5.out.lt) ⟨rfl, Below.refl _ _⟩
      · intro ρ W1 hb1 H d hd
        have hd' : (some 39 : Option Tmp) = some d := hd
        injection hd' with hd'
        subst hd'
        refine ⟨fun _ => ?_, fun hne => absurd (H.new 39 6 (by kernel_rfl)) hne⟩
        have e0 : ρ (.tmp 40) = .int .i64 k := H.new 40 7 (by kernel_rfl)
        have e1 : ρ (.tmp 41) = .agg #[.int .i64 ac, .bool ah, .bool amb, .int .i64 amn, .string ams, .bool axb, .int .i64 axn, .string axs, .int .i64 asm, .bool ao] := H.new 41 8 (by kernel_rfl)
        have e2 : ρ (.tmp 42) = .agg #[.int .i64 bc, .bool bh, .bool bmb, .int .i64 bmn, .string bms, .bool bxb, .int .i64 bxn, .string bxs, .int .i64 bsm, .bool bo] := H.new 42 9 (by kernel_rfl)
        refine gives_call rfl (fun _ _ => by kernel_rfl) (H.func _) (args := #[.int .i64 k, .agg #[.int .i64 ac, .bool ah, .bool amb, .int .i64 amn, .string ams, .bool axb, .int .i64 axn, .string axs, .int .i64 asm, .bool ao], .agg #[.int .i64 bc, .bool bh, .bool bmb, .int .i64 bmn, .string bms, .bool bxb, .int .i64 bxn, .string bxs, .int .i64 bsm, .bool bo]]) (by simp [e0, e1, e2]) ?_
        exact (HG.out (by simp) (by simp) W1 (Utf8Tabs_below HU5.out hb1)).mono fun e w' ⟨h1, h2⟩ => ⟨_, h1, rfl, h2⟩
      · intro ρ W1 hb1 H d hd
        have hd' : (some 39 : Option Tmp) = some d := hd
        injection hd' with hd'
        subst hd'
        refine ⟨fun _ => ?_, fun hne => absurd (H.new 39 6 (by kernel_rfl)) hne⟩
        exact gives_move rfl (H.old 0 _ (by kernel_rfl) rfl) ⟨rfl, Below.refl _ _⟩
      · intro ρ W1 hb1 H d hd
        have hd' : (some 39 : Option Tmp) = some d := hd
        injection hd' with hd'
        subst hd'
        refine ⟨fun _ => ?_, fun hne => absurd (H.new 39 6 (by kernel_rfl)) hne⟩
        exact gives_load_row (cs := [.int .i64 ac, .bool ah, .bool amb, .int .i64 amn, .string ams, .bool axb, .int .i64 axn, .string axs, .int .i64 asm, .bool ao]) rfl (H.old 4 _ (by kernel_rfl) rfl) Tryd.underlying28 rfl infoS_size (RA5.out.below hb1 RA5.out.lt) ⟨rfl, Below.refl _ _⟩
      · intro ρ W1 hb1 H d hd
        have hd' : (some 39 : Option Tmp) = some d := hd
        injection hd' with hd'
        subst hd'
        refine ⟨fun _ => ?_, fun hne => absurd (H.new 39 6 (by kernel_rfl)) hne⟩
        exact gives_load_row (cs := [.int .i64 bc, .bool bh, .bool bmb, .int .i64 bmn, .string bms, .bool bxb, .int .i64 bxn, .string bxs, .int .i64 bsm, .bool bo]) rfl (H.old 5 _ (by kernel_rfl) rfl) Tryd.underlying28 rfl infoS_size (RB5.out.below hb1 RB5.out.lt) ⟨rfl, Below.refl _ _⟩
      · intro ρ W1 hb1 H d hd
        have hd' : (some 39 : Option Tmp) = some d := hd
        injection hd' with hd'
        subst hd'
        refine ⟨fun _ => ?_, fun hne => absurd (H.new 39 6 (by kernel_rfl)) hne⟩
        have e0 : ρ (.tmp 44) = .int .i64 k := H.new 44 11 (by kernel_rfl)
        have e1 : ρ (.tmp 45) = .agg #[.int .i64 ac, .bool ah, .bool amb, .int .i64 amn, .string ams, .bool axb, .int .i64 axn, .string axs, .int .i64 asm, .bool ao] := H.new 45 12 (by kernel_rfl)
        have e2 : ρ (.tmp 46) = .agg #[.int .i64 bc, .bool bh, .bool bmb, .int .i64 bmn, .string bms, .bool bxb, .int .i64 bxn, .string bxs, .int .i64 bsm, .bool bo] := H.new 46 13 (by kernel_rfl)
        refine gives_call rfl (fun _ _ => by kernel_rfl) (H.func _) (args := #[.int .i64 k, .agg #[.int .i64 ac, .bool ah, .bool amb, .int .i64 amn, .string ams, .bool axb, .int .i64 axn, .string axs, .int .i64 asm, .bool ao], .agg #[.int .i64 bc, .bool bh, .bool bmb, .int .i64 bmn, .string bms, .bool bxb, .int .i64 bxn, .string bxs, .int .i64 bsm, .bool bo]]) (by simp [e0, e1, e2]) ?_
        exact (HR.out (by simp) (by simp) W1).mono fun e w' ⟨h1, h2⟩ => ⟨_, h1, rfl, h2⟩
      · intro ρ W1 hb1 H d hd
        have hd' : (some 39 : Option Tmp) = some d := hd
        injection hd' with hd'
        subst hd'
        refine ⟨fun _ => ?_, fun hne => absurd (H.new 39 6 (by kernel_rfl)) hne⟩
        exact gives_eqSS rfl (H.new 43 10 (by kernel_rfl)) (H.new 47 14 (by kernel_rfl)) ⟨rfl, Below.refl _ _⟩
      · intro ρ W1 hb1 H
        exact gives_pick_f rfl (H.new 39 6 (by kernel_rfl)) (H.new 48 15 (by kernel_rfl)) ⟨rfl, Below.refl _ _⟩
      · intro ρ W1 hb1 H
        exact gives_assign rfl (H.new 49 16 (by kernel_rfl)) ⟨rfl, Below.refl _ _⟩
      · intro vs W1 hb1 hfs
        have f17 : vs 17 = .bool true := hfs 17 (by decide)
        clear hfs
        simp only [putAll, Nat.zero_add, Nat.reduceAdd]
        generalize vs 0 = z0
        generalize vs 1 = z1
        generalize vs 2 = z2
        generalize vs 3 = z3
        generalize vs 4 = z4
        generalize vs 5 = z5
        generalize vs 6 = z6
        generalize vs 7 = z7
        generalize vs 8 = z8
        generalize vs 9 = z9
        generalize vs 10 = z10
        generalize vs 11 = z11
        generalize vs 12 = z12
        generalize vs 13 = z13
        generalize vs 14 = z14
        generalize vs 15 = z15
        generalize vs 16 = z16
        simp only [f17, Act.put, List.setIfInBounds_toArray, List.set_cons_succ, List.set_cons_zero]
        clear f17
        have HB6 := Lib.hid (below_then HB5.out hb1)
        clear hb1
        go_wp2
        go_ret
        exact ⟨rfl, HB6.out⟩

set_option maxRecDepth 100000 in
theorem StatsMerges_lifted (os : Os) (started : os.Started) (H : Type) (enc : TypeId × Value → H) :
    ReturnsInHanded {} Tryd.checked os 4 .any (fun w args => (Rows.statsMergesSpec.pre enc Tryd.prog Tryd.f4 [] false w args ∧ laidMetH Tryd.prog [("unicode/utf8.acceptRanges", Rows.laid_unicode_utf8_acceptRanges), ("unicode/utf8.first", Rows.laid_unicode_utf8_first)] w) ∧ sizedMet enc Tryd.prog Tryd.f4 (OpenSpec.ofChange Rows.statsMergesSpec) false w args) (Rows.statsMergesSpec.post enc Tryd.prog Tryd.f4 false true false false) := by
  refine returnsInHanded_of_change_and (C := Tryd.checked) (X := fun w _ => laidMetH Tryd.prog [("unicode/utf8.acceptRanges", Rows.laid_unicode_utf8_acceptRanges), ("unicode/utf8.first", Rows.laid_unicode_utf8_first)] w) (fun _ _ _ hh h => h.of_heap hh) own started (by kernel_rfl) Tryd.func4
    (ChangeSpec.witness_shaped (enc := enc) (C := Tryd.checked) (os := os) (X := fun w _ => laidMetH Tryd.prog [("unicode/utf8.acceptRanges", Rows.laid_unicode_utf8_acceptRanges), ("unicode/utf8.first", Rows.laid_unicode_utf8_first)] w) false (World.laidAll Tryd.prog os [("unicode/utf8.acceptRanges", Rows.laid_unicode_utf8_acceptRanges), ("unicode/utf8.first", Rows.laid_unicode_utf8_first)]) #[.int .i64 0, .agg #[.int .i64 0, .bool false, .bool false, .int .i64 0, .string ⟨#[]⟩, .bool false, .int .i64 0, .string ⟨#[]⟩, .int .i64 0, .bool false], .agg #[.int .i64 0, .bool false, .bool false, .int .i64 0, .string ⟨#[]⟩, .bool false, .int .i64 0, .string ⟨#[]⟩, .int .i64 0, .bool false]] 8 (World.laidAll_os _ _ _) (World.shaped_of_ZipB (by kernel_rfl) (by kernel_rfl)) (by kernel_rfl) (by kernel_rfl) (by kernel_rfl) (by rw [MakeChecks.laidMetH_plain _ _ _ (by kernel_rfl)]; exact laidMet_laidAll _ (by kernel_rfl) (by kernel_rfl))) ?_
  intro W base args ds gs before hval0 hW _ _ hL _
  have hT := u8_of hL
  clear hL
  have hval : ∀ (j : Nat) t v, Tryd.f4.params[j]? = some t → args[j]? = some v → Value.okWide Tryd.prog W .any base t v := hval0
  have hW' := hW
  obtain ⟨p, q, hT0, hV, rfl, hfz, hnd⟩ := hW
  have hA : DataW.TrodAll enc Tryd.prog W 0 (fun _ => true) true Tryd.f4.params.toList args.toList ds p := hT0
  rw [Tryd.params4] at hA hval
  obtain ⟨v0, vs0, d0, ds0, p0, q0, hargs, rfl, rfl, h0, r0⟩ := trodAll_cons hA
  obtain ⟨v1, vs1, d1, ds1, p1, q1, rfl, rfl, rfl, h1, r1⟩ := trodAll_cons r0
  obtain ⟨v2, vs2, d2, ds2, p2, q2, rfl, rfl, rfl, h2, r2⟩ := trodAll_cons r1
  obtain ⟨rfl, rfl, rfl⟩ := trodAll_nil r2
  obtain rfl : args = #[v0, v1, v2] := by cases args; simp_all
  obtain ⟨rfl, rfl⟩ := trodVars_none hV
  obtain ⟨a0, rfl, rfl, rfl, w0⟩ := open_int Tryd.underlying3 (hval 0 3 v0 rfl rfl) h0
  obtain ⟨S1, rfl, hS1, hm1, hx1⟩ := open_stats (hval 1 28 v1 rfl rfl) h1
  obtain ⟨S2, rfl, hS2, hm2, hx2⟩ := open_stats (hval 2 28 v2 rfl rfl) h2
  clear hT0 hval0
  refine (StatsMerges_walk W hT a0 (wf_i64 w0).1 (wf_i64 w0).2 S1 hS1 hm1 hx1 S2 hS2 hm2 hx2).mono fun e W' ⟨he, hb⟩ => ?_
  subst he
  exact ⟨_, rfl, law_post laidOut Tryd.underlying4 (by kernel_rfl) (by kernel_rfl) rfl hW' rfl hb⟩

theorem StatsMerges_over : Rows.statsMergesRow.holds Tryd.pinned (OpenSpec.ofChange Rows.statsMergesSpec) :=
  OpenClaim.holds_of_wide 4 Tryd.f4 rfl rfl rfl rfl rfl rfl rfl ⟨rfl, rfl, rfl, rfl, rfl⟩ rfl rfl rfl rfl rfl (by kernel_rfl) Tryd.func4 (by kernel_rfl)
    (of_decide_eq_true (by kernel_rfl)) (by unfold Func.isWrapper; first | (rw [if_pos (by decide +kernel)]; kernel_rfl) | (rw [if_neg (by decide +kernel)]; exact ⟨rfl, rfl⟩))
    (fun os started H enc _ => StatsMerges_lifted os started H enc)

theorem StatsMerges_holds : Rows.StatsMergesCardSaid :=
  Claim7.holds_tied_plain_at .later [] _ true _ _ StatsMerges_over (fun _ h => by cases h) (by kernel_rfl) (fun _ h => by cases h) statsMerges_row_tie rfl ⟨rfl, rfl⟩ (by kernel_rfl) rfl
    (fun f fn hf hfn => by
      obtain rfl : f = 4 := Option.some.inj ((show Tryd.prog.funcNamed "pilaster/pilasterlaw17.StatsMerges" = some 4 by kernel_rfl).symm.trans hf) |>.symm
      obtain rfl : fn = Tryd.f4 := (Option.some.inj (Tryd.func4.symm.trans hfn)).symm
      exact ⟨by kernel_rfl, fun j t ht => stand_ins (by kernel_rfl) ht⟩)
    (by kernel_rfl)
#print axioms StatsMerges_holds

end Go.Proofs.YtgbmppdbahjjhaaDoor
