
/- The statements' own and same of layer 19; the contract of the reference's Same. Written by gen_fkit.py. -/

import Derived.Test.YtocodcceimeiiaaFTakeO

namespace Go.Proofs.Ytocodcceimeiiaa

open Go.RowKit Go.ChangeShapes Go.WideShapes Go.ChangeAt

theorem rfield_size : ∀ W, (sizeOf 35).run Try.prog W = .ok 4 W := Try.sizeOf35
theorem ofield_size : ∀ W, (sizeOf 41).run Try.prog W = .ok 4 W := Try.sizeOf41
theorem rfield_at0 (W : World) (a : Addr) : (Instr.fieldAt 35 (.pointer (some a)) 0).run Try.prog W = .ok (.pointer (some a)) W := by simp [Instr.fieldAt, run_underlying Try.underlying35, Instr.sureAddr, fieldPlace, Addr.add]
theorem rfield_at1 (W : World) (a : Addr) : (Instr.fieldAt 35 (.pointer (some a)) 1).run Try.prog W = .ok (.pointer (some ⟨a.block, a.off + 1, none⟩)) W := by simp [Instr.fieldAt, run_underlying Try.underlying35, Instr.sureAddr, fieldPlace, Addr.add]
theorem rfield_at2 (W : World) (a : Addr) : (Instr.fieldAt 35 (.pointer (some a)) 2).run Try.prog W = .ok (.pointer (some ⟨a.block, a.off + 2, none⟩)) W := by simp [Instr.fieldAt, run_underlying Try.underlying35, Instr.sureAddr, fieldPlace, Addr.add]
theorem rfield_at3 (W : World) (a : Addr) : (Instr.fieldAt 35 (.pointer (some a)) 3).run Try.prog W = .ok (.pointer (some ⟨a.block, a.off + 3, none⟩)) W := by simp [Instr.fieldAt, run_underlying Try.underlying35, Instr.sureAddr, fieldPlace, Addr.add]
theorem ofield_at0 (W : World) (a : Addr) : (Instr.fieldAt 41 (.pointer (some a)) 0).run Try.prog W = .ok (.pointer (some a)) W := by simp [Instr.fieldAt, run_underlying Try.underlying41, Instr.sureAddr, fieldPlace, Addr.add]
theorem ofield_at1 (W : World) (a : Addr) : (Instr.fieldAt 41 (.pointer (some a)) 1).run Try.prog W = .ok (.pointer (some ⟨a.block, a.off + 1, none⟩)) W := by simp [Instr.fieldAt, run_underlying Try.underlying41, Instr.sureAddr, fieldPlace, Addr.add]
theorem ofield_at2 (W : World) (a : Addr) : (Instr.fieldAt 41 (.pointer (some a)) 2).run Try.prog W = .ok (.pointer (some ⟨a.block, a.off + 2, none⟩)) W := by simp [Instr.fieldAt, run_underlying Try.underlying41, Instr.sureAddr, fieldPlace, Addr.add]
theorem ofield_at3 (W : World) (a : Addr) : (Instr.fieldAt 41 (.pointer (some a)) 3).run Try.prog W = .ok (.pointer (some ⟨a.block, a.off + 3, none⟩)) W := by simp [Instr.fieldAt, run_underlying Try.underlying41, Instr.sureAddr, fieldPlace, Addr.add]
theorem rbuild_all (t : Int) (b : Bool) (x : Int) (A : Option Addr) (n c : Nat) (W : World) : (Instr.build 35 #[(0, .int .i64 t), (1, .bool b), (2, .int .u64 x), (3, .slice A n c)]).run Try.prog W = .ok (.agg #[.int .i64 t, .bool b, .int .u64 x, .slice A n c]) W := by kernel_rfl
theorem obuild_all (t : Int) (b : Bool) (x : Int) (A : Option Addr) (n c : Nat) (W : World) : (Instr.build 41 #[(0, .int .i64 t), (1, .bool b), (2, .int .u64 x), (3, .slice A n c)]).run Try.prog W = .ok (.agg #[.int .i64 t, .bool b, .int .u64 x, .slice A n c]) W := by kernel_rfl
theorem rlit_one (a b c d : Value) (W : World) : (Instr.buildSlice 22 1 #[(0, .agg #[a, b, c, d])]).run Try.prog W = .ok (.slice (some ⟨W.heap.size, 0, none⟩) 1 1) (W.alloc (.cells #[a, b, c, d] 35)) := by kernel_rfl
theorem olit_one (a b c d : Value) (W : World) : (Instr.buildSlice 29 1 #[(0, .agg #[a, b, c, d])]).run Try.prog W = .ok (.slice (some ⟨W.heap.size, 0, none⟩) 1 1) (W.alloc (.cells #[a, b, c, d] 41)) := by kernel_rfl
theorem blit_none (W : World) : (Instr.buildSlice 25 0 #[]).run Try.prog W = .ok (.slice (some ⟨W.heap.size, 0, none⟩) 0 0) (W.alloc (.cells #[] 5)) := by kernel_rfl
/-- A slice literal of one struct; of nothing; bytes in a block of bytes; a field with such; a literal of it. -/
def Fact.lit (e : TypeId) (cs : List Value) : Fact := ⟨fun v W => ∃ g, v = .slice (some ⟨g, 0, none⟩) 1 1 ∧ Row W g e cs, fun _ _ _ ⟨g, h1, h2⟩ hb => ⟨g, h1, h2.below hb h2.lt⟩⟩
def Fact.none : Fact := ⟨fun v W => ∃ g, v = .slice (some ⟨g, 0, Option.none⟩) 0 0 ∧ Row W g 5 [], fun _ _ _ ⟨g, h1, h2⟩ hb => ⟨g, h1, h2.below hb h2.lt⟩⟩
def Fact.bt (l : List UInt8) : Fact := ⟨IsBT l, fun _ _ _ h hb => h.below hb⟩
def Fact.field (t : Int) (b : Bool) (x : Nat) (l : List UInt8) : Fact := ⟨fun v W => ∃ A n c, v = .agg #[.int .i64 t, .bool b, .int .u64 (x : Int), .slice A n c] ∧ IsBT l (.slice A n c) W, fun _ _ _ ⟨A, n, c, h1, h2⟩ hb => ⟨A, n, c, h1, h2.below hb⟩⟩
def Fact.flit (t : Int) (b : Bool) (x : Nat) (l : List UInt8) : Fact := ⟨fun v W => ∃ g A n c, v = .slice (some ⟨g, 0, Option.none⟩) 1 1 ∧ Row W g 41 [.int .i64 t, .bool b, .int .u64 (x : Int), .slice A n c] ∧ IsBT l (.slice A n c) W, fun _ _ _ ⟨g, A, n, c, h1, h2, h3⟩ hb => ⟨g, A, n, c, h1, h2.below hb h2.lt, h3.below hb⟩⟩
theorem isBT_lies {l : List UInt8} {v : Value} {w : World} (h : IsB l v w) (hr : ∀ ad n c, v = .slice (some ad) n c → ∃ cs, w.heap[ad.block]? = some (.cells cs 5 (0, 0))) : IsBT l v w := ⟨h, hr⟩
/-- append([]byte{}, x...): bytes in a block of bytes. -/
theorem gives_copy0 {P : Program} {o : Oper} {ρ : Operand → Value} {w : World} {R : Value → World → Prop} {t : TypeId} {z : Value} (E : Elem P t 5 1 z) {s x : Operand} {l : List UInt8} {v : Value} {g : Nat} (ho : o.op = .call { callee := .builtin .append, args := #[s, x], argTypes := #[t, t] }) (hs : ρ s = .slice (some ⟨g, 0, none⟩) 0 0) (hx : ρ x = v) (hv : IsB l v w)
    (hr : Row w g 5 []) (hl : l.length ≤ 1000000000) (hR : ∀ v' w', IsBT l v' w' → Below w.heap.size w w' → R v' w') : Gives P o ρ w R := by
  obtain ⟨A, c, rfl, h1, h2, h3, h4⟩ := hv
  obtain ⟨i, g1, g2, g3, g4⟩ := E.info
  have g5 : z.cells.size = 1 := by rw [E.one]; rfl
  cases A with
  | none =>
    have h0 := h1 rfl
    obtain rfl := List.eq_nil_of_length_eq_zero h0
    refine gives_of (v := .slice (some ⟨g, 0, none⟩) 0 0) (w' := w) ?_ (hR _ _ ⟨⟨some ⟨g, 0, none⟩, 0, rfl, by simp, by simp, by unfold maxLen; omega, .inl rfl⟩, fun ad n c e => by injection e with e _ _; injection e with e; subst e; exact ⟨_, hr⟩⟩ (Below.refl _ _))
    simp [execOp, ho, resolve, invoke, builtin, hs, hx, Builtin.append_, run_underlying E.under, sizeOf, typeInfo, g1, Builtin.lenOf, Builtin.firstCells, storeCells]
  | some ad =>
    have hnews : ∀ j u, (l.map bv)[j]? = some u → w.cell? (ad.add j) = some u := by
      rcases h4 with h4 | ⟨ad', hA, _, hc⟩
      · intro j u hu; rw [h4] at hu; simp at hu
      · injection hA with hA; subst hA; exact hc
    by_cases h0 : l.length = 0
    · obtain rfl := List.eq_nil_of_length_eq_zero h0
      refine gives_of (v := .slice (some ⟨g, 0, none⟩) 0 0) (w' := w) ?_ (hR _ _ ⟨⟨some ⟨g, 0, none⟩, 0, rfl, by simp, by simp, by unfold maxLen; omega, .inl rfl⟩, fun ad n c e => by injection e with e _ _; injection e with e; subst e; exact ⟨_, hr⟩⟩ (Below.refl _ _))
      simp [execOp, ho, resolve, invoke, builtin, hs, hx, Builtin.append_, run_underlying E.under, sizeOf, typeInfo, g1, Builtin.lenOf, Builtin.firstCells, storeCells, loadCells, loadCellsFrom]
    · have hgr := run_append_grow (P := P) w t o.type 5 i z E.under g1 g2 ⟨g, 0, none⟩ 0 0 [] (by simp) (by simp) ad l.length c (l.map bv) (by rw [List.length_map, g3, Nat.mul_one]) hnews (by omega) (by omega) (growslice_fits (by omega) (by rw [g4]; omega))
      have hge := grownCap_ge w (0 + l.length) 0 5
      have hcm := grownCap_le_maxLen w (0 + l.length) 0 5 (by unfold maxLen; omega)
      obtain ⟨cells, hcells⟩ : ∃ cells : Array Value, cells = (([] : List Value).toArray ++ (l.map bv).toArray ++ Builtin.zeroCells z.cells (grownCap w (0 + l.length) 0 5 - (0 + l.length))) := ⟨_, rfl⟩
      rw [← hcells] at hgr
      have hrow : (w.drew.alloc (.cells cells 5)).heap[w.heap.size]? = some (.cells cells 5 (0, 0)) := heap_alloc_new w.drew _
      have hI : IsB l (.slice (some ⟨w.heap.size, 0, none⟩) l.length (grownCap w (0 + l.length) 0 5)) (w.drew.alloc (.cells cells 5)) := by
        refine ⟨some ⟨w.heap.size, 0, none⟩, _, rfl, by simp, by omega, hcm, .inr ⟨_, rfl, by simp, fun j u hu => ?_⟩⟩
        have he : (⟨w.heap.size, 0, none⟩ : Addr).add j = ⟨w.heap.size, j, none⟩ := by unfold Addr.add; split <;> simp_all
        rw [he, cell_of_row _ _ j cells _ _ hrow, hcells]
        have hj : j < (l.map bv).length := (List.getElem?_eq_some_iff.1 hu).1
        rw [Array.getElem?_append_left (by simpa using hj), Array.getElem?_append_right (by simp)]
        simpa using hu
      refine gives_of (v := .slice (some ⟨w.heap.size, 0, none⟩) l.length (grownCap w (0 + l.length) 0 5)) (w' := w.drew.alloc (.cells cells 5)) ?_ (hR _ _ ⟨hI, fun ad n c e => by injection e with e _ _; injection e with e; subst e; exact ⟨_, hrow⟩⟩ ⟨rfl, rfl, rfl, by simp, fun k hk => Below.heap_alloc w.drew _ k hk⟩)
      rw [Nat.zero_add] at hgr ⊢
      simp [execOp, ho, resolve, invoke, builtin, hs, hx, hgr]
def FSm (l : List FN) (w : World) (i : Value) (wr : World) : Prop := ∃ k : Nat, k ≤ l.length ∧ i = .int .i64 (k : Int) ∧ Below w.heap.size w wr
theorem isFields_own {T : TypeId} {w' : World} {fs : List FN} {v : Value} {base n : Nat} (ho : w'.ownsRow base T 4 v n (fs.flatMap fcells)) (hf : ∀ f ∈ fs, FAt f w') : IsFields fs v w' := ⟨isR_own (m := 4) (fun _ => rfl) (by omega) ho, hf⟩
def FSameRel (l : List FN) (w : World) (out i : Value) (wr : World) : Prop := ∃ k : Nat, k ≤ l.length ∧ i = .int .i64 (k : Int) ∧ wr.ownsRow w.heap.size 35 4 out k ((l.take k).flatMap fcells) ∧ Below w.heap.size w wr
theorem flat_next {l : List FN} {k : Nat} (h : k < l.length) : (l.take (k + 1)).flatMap fcells = (l.take k).flatMap fcells ++ fcells l[k] := by
  rw [List.take_succ_eq_append_getElem h, List.flatMap_append]
  simp
set_option maxHeartbeats 8000000 in
set_option maxRecDepth 100000 in
theorem fsameK_any (l m : List FN) (v u : Value) (w : World) (h : IsFields l v w) (hm : IsFields m u w) (hl : l.length ≤ 1000)
    (HSA : ∀ (k : Value) (W : World), IsFields l k W → IsFields m u W → Calls Try.prog 17 #[k, u] W fun e w' => e = .returned (.bool true) ∧ Below W.heap.size W w') :
    Calls Try.prog 12 #[v, u] w fun e w' => e = .returned (.bool true) ∧ Below w.heap.size w w' := by
  obtain ⟨A, n, c, rfl⟩ := h.1.shape
  obtain ⟨eb, heb, hE⟩ := elemFN
  have HEB := Lib.hid hE
  have HF := Lib.hid h
  have HM := Lib.hid hm
  have HS := Lib.hid HSA
  have HN := Lib.hid h.1.parts.1
  have hn2 : (n : Int) ≤ 1000 := by have := HN.out; omega
  have HST : Hid (FSameRel l w (.slice (some ⟨w.heap.size, 0, none⟩) 0 0) (.int .i64 0) (w.alloc (.cells #[] 35))) := Lib.hid ⟨0, Nat.zero_le _, rfl, by simpa using ownW_made w 35 4, (Below.refl _ _).alloc (Nat.le_refl _) _⟩
  clear h hm hE HSA
  go_enter Try.func12, Try.ntmps12
  go_wp2
  go_loopw [5, 6] (FSameRel l w) (fun _ i _ => n - (intOf i).toNat)
  case atStart => exact HST.out
  case round =>
    obtain ⟨k, hk, rfl, how, hbw⟩ := hrel
    clear HST
    by_cases hlt : k < n
    case neg =>
      have hlti : ¬ (k : Int) < (n : Int) := by omega
      obtain rfl : k = l.length := by have := HN.out; omega
      rw [List.take_length] at how
      have HIF := Lib.hid (show IsFields l u5 wr from isFields_own how fun f hf => (HF.out.2 f hf).below hbw)
      have HBW := Lib.hid hbw
      clear how hbw
      go_wp2_with fail
      refine (HS.out u5 wr HIF.out (HM.out.below HBW.out)).mono ?_
      rintro e w2 ⟨rfl, hb2⟩
      have HB2 := Lib.hid (below_then HBW.out hb2)
      clear hb2
      go_wp2
      go_ret
      exact ⟨rfl, HB2.out⟩
    have hlti : (k : Int) < (n : Int) := by omega
    have hkl : k < l.length := by have := HN.out; omega
    obtain ⟨ad, rfl, had, hcell⟩ := ((HF.out.below hbw).1).at (m := 4) (fun _ => rfl) (by omega) hkl
    have hat := HF.out.2 _ (List.getElem_mem hkl)
    have hsn := flat_next hkl
    have hk1 : k + 1 ≤ 1000000000 := by omega
    obtain ⟨x, hx⟩ : ∃ x, x = l[k] := ⟨_, rfl⟩
    rw [← hx] at hcell hat hsn
    obtain ⟨c0, c1, c2, c3⟩ := cells4 hcell
    obtain ⟨tag, bytes, nn, bs, lv⟩ := x
    obtain ⟨bA, bc, e, h5A, _, _, h5L⟩ := hat.byt
    dsimp only at c0 c1 c2 c3 e
    obtain ⟨bn, hbn⟩ : ∃ bn, bn = bs.length := ⟨_, rfl⟩
    rw [← hbn] at e
    subst e
    have HSN := Lib.hid hsn
    have HOW := Lib.hid how
    have HBW := Lib.hid hbw
    have HKL := Lib.hid hkl
    have HLT := Lib.hid (show (ad.add (k * 4)).block < wr.heap.size by rw [add_block]; exact had)
    clear hcell hat hsn how hbw hx hkl h5A h5L hbn hk had
    go_wp2_with fail
    refine wp_region_list_tail 23 [.is (u5), .is (.slice (some ad) n c), .is (.int .i64 (k : Int)), .is (.pointer (some (ad.add (k * 4)))), .is (.pointer (some (ad.add (k * 4)))), .is (.int .i64 tag), .is (.slice (some ad) n c), .is (.int .i64 (k : Int)), .is (.pointer (some (ad.add (k * 4)))), .is (.pointer (some ⟨(ad.add (k * 4)).block, (ad.add (k * 4)).off + 1, none⟩)), .is (.bool bytes), .is (.slice (some ad) n c), .is (.int .i64 (k : Int)), .is (.pointer (some (ad.add (k * 4)))), .is (.pointer (some ⟨(ad.add (k * 4)).block, (ad.add (k * 4)).off + 2, none⟩)), .is (.int .u64 (nn : Int)), .is (.slice (some ad) n c), .is (.int .i64 (k : Int)), .is (.pointer (some (ad.add (k * 4)))), .is (.pointer (some ⟨(ad.add (k * 4)).block, (ad.add (k * 4)).off + 3, none⟩)), .is (.slice bA bn bc), .is (.agg #[.int .i64 tag, .bool bytes, .int .u64 (nn : Int), .slice bA bn bc]), Fact.lit 35 [.int .i64 tag, .bool bytes, .int .u64 (nn : Int), .slice bA bn bc]] [some 14, some 15, some 16, some 17, some 18, some 19, some 20, some 21, some 22, some 23, some 24, some 25, some 26, some 27, some 28, some 29, some 30, some 31, some 32, some 33, some 34, some 35, some 36] (by kernel_rfl) (by kernel_rfl) (by kernel_rfl) (by kernel_rfl) rfl ⟨?_, ?_, ?_, ?_, ?_, ?_, ?_, ?_, ?_, ?_, ?_, ?_, ?_, ?_, ?_, ?_, ?_, ?_, ?_, ?_, ?_, ?_, ?_, trivial⟩ ?_
    · intro ρ W1 hb1 H
      exact gives_move rfl (H.old 5 _ (by kernel_rfl) rfl) ⟨rfl, Below.refl _ _⟩
    · intro ρ W1 hb1 H
      exact gives_move rfl (H.old 0 _ (by kernel_rfl) rfl) ⟨rfl, Below.refl _ _⟩
    · intro ρ W1 hb1 H
      exact gives_move rfl (H.old 6 _ (by kernel_rfl) rfl) ⟨rfl, Below.refl _ _⟩
    · intro ρ W1 hb1 H
      exact gives_index_wide (k := k) Try.underlying29 ofield_size rfl (H.new 15 1 (by kernel_rfl)) (H.new 16 2 (by kernel_rfl)) hlt ⟨rfl, Below.refl _ _⟩
    · intro ρ W1 hb1 H
      exact gives_field rfl (H.new 17 3 (by kernel_rfl)) (fun W => ofield_at0 W (ad.add (k * 4))) ⟨rfl, Below.refl _ _⟩
    · intro ρ W1 hb1 H
      exact gives_load rfl (H.new 18 4 (by kernel_rfl)) Try.underlying3 rfl ((hb1.cell (by first | exact HLT.out | (rw [show _ = (ad.add (k * 4)).block from rfl]; exact HLT.out))).trans c0) ⟨rfl, Below.refl _ _⟩
    · intro ρ W1 hb1 H
      exact gives_move rfl (H.old 0 _ (by kernel_rfl) rfl) ⟨rfl, Below.refl _ _⟩
    · intro ρ W1 hb1 H
      exact gives_move rfl (H.old 6 _ (by kernel_rfl) rfl) ⟨rfl, Below.refl _ _⟩
    · intro ρ W1 hb1 H
      exact gives_index_wide (k := k) Try.underlying29 ofield_size rfl (H.new 20 6 (by kernel_rfl)) (H.new 21 7 (by kernel_rfl)) hlt ⟨rfl, Below.refl _ _⟩
    · intro ρ W1 hb1 H
      exact gives_field rfl (H.new 22 8 (by kernel_rfl)) (fun W => ofield_at1 W (ad.add (k * 4))) ⟨rfl, Below.refl _ _⟩
    · intro ρ W1 hb1 H
      exact gives_load rfl (H.new 23 9 (by kernel_rfl)) Try.underlying4 rfl ((hb1.cell (by first | exact HLT.out | (rw [show _ = (ad.add (k * 4)).block from rfl]; exact HLT.out))).trans c1) ⟨rfl, Below.refl _ _⟩
    · intro ρ W1 hb1 H
      exact gives_move rfl (H.old 0 _ (by kernel_rfl) rfl) ⟨rfl, Below.refl _ _⟩
    · intro ρ W1 hb1 H
      exact gives_move rfl (H.old 6 _ (by kernel_rfl) rfl) ⟨rfl, Below.refl _ _⟩
    · intro ρ W1 hb1 H
      exact gives_index_wide (k := k) Try.underlying29 ofield_size rfl (H.new 25 11 (by kernel_rfl)) (H.new 26 12 (by kernel_rfl)) hlt ⟨rfl, Below.refl _ _⟩
    · intro ρ W1 hb1 H
      exact gives_field rfl (H.new 27 13 (by kernel_rfl)) (fun W => ofield_at2 W (ad.add (k * 4))) ⟨rfl, Below.refl _ _⟩
    · intro ρ W1 hb1 H
      exact gives_load rfl (H.new 28 14 (by kernel_rfl)) Try.underlying33 rfl ((hb1.cell (by first | exact HLT.out | (rw [show _ = (ad.add (k * 4)).block from rfl]; exact HLT.out))).trans c2) ⟨rfl, Below.refl _ _⟩
    · intro ρ W1 hb1 H
      exact gives_move rfl (H.old 0 _ (by kernel_rfl) rfl) ⟨rfl, Below.refl _ _⟩
    · intro ρ W1 hb1 H
      exact gives_move rfl (H.old 6 _ (by kernel_rfl) rfl) ⟨rfl, Below.refl _ _⟩
    · intro ρ W1 hb1 H
      exact gives_index_wide (k := k) Try.underlying29 ofield_size rfl (H.new 30 16 (by kernel_rfl)) (H.new 31 17 (by kernel_rfl)) hlt ⟨rfl, Below.refl _ _⟩
    · intro ρ W1 hb1 H
      exact gives_field rfl (H.new 32 18 (by kernel_rfl)) (fun W => ofield_at3 W (ad.add (k * 4))) ⟨rfl, Below.refl _ _⟩
    · intro ρ W1 hb1 H
      exact gives_load rfl (H.new 33 19 (by kernel_rfl)) Try.underlying25 rfl ((hb1.cell (by first | exact HLT.out | (rw [show _ = (ad.add (k * 4)).block from rfl]; exact HLT.out))).trans c3) ⟨rfl, Below.refl _ _⟩
    · intro ρ W1 hb1 H
      have e1 : ρ (.tmp 19) = .int .i64 tag := (H.new 19 5 (by kernel_rfl))
      have e2 : ρ (.tmp 24) = .bool bytes := (H.new 24 10 (by kernel_rfl))
      have e3 : ρ (.tmp 29) = .int .u64 (nn : Int) := (H.new 29 15 (by kernel_rfl))
      have e4 : ρ (.tmp 34) = .slice bA bn bc := (H.new 34 20 (by kernel_rfl))
      refine gives_of (v := .agg #[.int .i64 tag, .bool bytes, .int .u64 (nn : Int), .slice bA bn bc]) (w' := W1) ?_ ⟨rfl, Below.refl _ _⟩
      simp [execOp, e1, e2, e3, e4, rbuild_all]
    · intro ρ W1 hb1 H
      have e1 : ρ (.tmp 35) = .agg #[.int .i64 tag, .bool bytes, .int .u64 (nn : Int), .slice bA bn bc] := (H.new 35 21 (by kernel_rfl))
      refine gives_of (v := .slice (some ⟨W1.heap.size, 0, none⟩) 1 1) (w' := W1.alloc (.cells #[.int .i64 tag, .bool bytes, .int .u64 (nn : Int), .slice bA bn bc] 35)) ?_ ⟨⟨_, rfl, heap_alloc_new W1 _⟩, (Below.refl _ _).alloc (Nat.le_refl _) _⟩
      simp [execOp, e1, rlit_one]
    · intro vs W1 hb1 hfs
      have f0 : vs 0 = u5 := hfs 0 (by decide)
      have f22 : ∃ g, vs 22 = .slice (some ⟨g, 0, none⟩) 1 1 ∧ Row W1 g 35 [.int .i64 tag, .bool bytes, .int .u64 (nn : Int), .slice bA bn bc] := hfs 22 (by decide)
      clear hfs
      simp only [putAll, Nat.zero_add, Nat.reduceAdd, List.drop_succ_cons, List.drop_zero]
      generalize vs 1 = z1
      generalize vs 2 = z2
      generalize vs 3 = z3
      generalize vs 4 = z4
      generalize vs 5 = z5
      generalize vs 6 = z6
      generalize vs 7 = z7
      generalize vs 8 = z8
      generalize vs 9 = z9
      generalize vs 10 = z10
      generalize vs 11 = z11
      generalize vs 12 = z12
      generalize vs 13 = z13
      generalize vs 14 = z14
      generalize vs 15 = z15
      generalize vs 16 = z16
      generalize vs 17 = z17
      generalize vs 18 = z18
      generalize vs 19 = z19
      generalize vs 20 = z20
      generalize vs 21 = z21
      generalize vs 22 = z22 at f22 ⊢
      simp only [f0, Act.put, List.setIfInBounds_toArray, List.set_cons_succ, List.set_cons_zero]
      clear f0
      obtain ⟨g, rfl, hlit⟩ := f22
      have hb2 : Below w.heap.size w W1 := below_then HBW.out hb1
      have ho2 := own_below HOW.out hb1
      have hz2 := hb2.size
      have hll := hlit.lies 0
      rw [List.drop_zero] at hll
      have HB2 := Lib.hid hb2
      have HO2 := Lib.hid ho2
      have HZ2 := Lib.hid hz2
      have HLL := Lib.hid hll
      clear hlit hb1 hb2 ho2 hz2 hll
      go_wp2_with (at_builtin; refine wpList_joinW HEB.out rfl _ _ rfl w.heap.size _ _ _ _ 1 1 _ w rfl rfl (by simp) rfl HLL.out fcells_one HO2.out HB2.out HZ2.out hk1 heb ?_)
      intro v7 w7 ho7 hb7 _ _
      have HREL := Lib.hid (show FSameRel l w v7 (.int .i64 ((k + 1 : Nat) : Int)) w7 from ⟨k + 1, HKL.out, rfl, by rw [HSN.out]; exact ho7, hb7⟩)
      clear ho7 hb7
      go_wp2
      go_roundw
      case rel => exact HREL.out
      case measure => simp [intOf]; omega
set_option maxHeartbeats 8000000 in
set_option maxRecDepth 100000 in
theorem rfsame_any (l m : List FN) (v u : Value) (w : World) (h : IsFields l v w) (hm : IsFields m u w) (he : l.map FN.wf = m.map FN.wf) (hl : l.length ≤ 1000) :
    Calls Try.prog 17 #[v, u] w fun e w' => e = .returned (.bool true) ∧ Below w.heap.size w w' := by
  obtain ⟨A, n, c, rfl⟩ := h.1.shape
  obtain ⟨A2, n2, c2', rfl⟩ := hm.1.shape
  have HF := Lib.hid h
  have HM := Lib.hid hm
  have HE := Lib.hid he
  have HN := Lib.hid h.1.parts.1
  have hn2 : (n : Int) ≤ 1000 := by have := HN.out; omega
  have HL2 := Lib.hid (show l.length = m.length by have := congrArg List.length he; simpa using this)
  obtain rfl : n2 = n := by have := hm.1.parts.1; have := HL2.out; have := HN.out; omega
  have HST : Hid (FSm l w (.int .i64 0) w) := Lib.hid ⟨0, Nat.zero_le _, rfl, Below.refl _ _⟩
  clear h hm he
  go_enter Try.func17, Try.ntmps17
  go_wp2
  go_loopw [5] (FSm l w) (fun i _ => n2 - (intOf i).toNat)
  case atStart => exact HST.out
  case round =>
    obtain ⟨k, hk, rfl, hbw⟩ := hrel
    clear HST
    by_cases hlt : k < n2
    case neg =>
      have hlti : ¬ (k : Int) < (n2 : Int) := by omega
      obtain rfl : k = l.length := by have := HN.out; omega
      have HBW := Lib.hid hbw
      clear hbw
      go_wp2
      go_ret
      exact ⟨rfl, HBW.out⟩
    have hlti : (k : Int) < (n2 : Int) := by omega
    have hkl : k < l.length := by have := HN.out; omega
    have hkm : k < m.length := by have := HL2.out; omega
    obtain ⟨ad, rfl, had, hcell⟩ := ((HF.out.below hbw).1).at (m := 4) (fun _ => rfl) (by omega) hkl
    obtain ⟨ae, rfl, hae, hcelm⟩ := ((HM.out.below hbw).1).at (m := 4) (fun _ => rfl) (by omega) hkm
    have hat := (HF.out.below hbw).2 _ (List.getElem_mem hkl)
    have ham := (HM.out.below hbw).2 _ (List.getElem_mem hkm)
    have hww : l[k].wf = m[k].wf := by
      have h1 : (l.map FN.wf)[k]'(by simpa using hkl) = (m.map FN.wf)[k]'(by simpa using hkm) := by simp only [HE.out]
      simpa using h1
    obtain ⟨x, hx⟩ : ∃ x, x = l[k] := ⟨_, rfl⟩
    obtain ⟨y, hy⟩ : ∃ y, y = m[k] := ⟨_, rfl⟩
    rw [← hx] at hcell hat hww
    rw [← hy] at hcelm ham hww
    obtain ⟨c0, c1, c2, c3⟩ := cells4 hcell
    obtain ⟨e0, e1, e2, e3⟩ := cells4 hcelm
    obtain ⟨tag, bytes, nn, bs, lv⟩ := x
    obtain ⟨tag2, bytes2, nn2, bs2, lv2⟩ := y
    unfold FN.wf at hww
    injection hww with q1 q2 q3 q4
    dsimp only at q1 q2 q3 q4
    subst q1 q2 q3 q4
    have hbt := hat.byt
    have hbm := ham.byt
    dsimp only at c0 c1 c2 c3 e0 e1 e2 e3 hbt hbm
    have HT1 := Lib.hid (fun q : Nat => textB (w := wr.drewN q) (l := bs) (v := lv) (hbt.below (below_drewN (Below.refl _ _) _)))
    have HT2 := Lib.hid (fun q : Nat => textB (w := wr.drewN q) (l := bs) (v := lv2) (hbm.below (below_drewN (Below.refl _ _) _)))
    obtain ⟨bA, bn, bc, rfl⟩ := IsV.shape (f := bv) hbt
    obtain ⟨dA, dn, dc, rfl⟩ := IsV.shape (f := bv) hbm
    have HBW := Lib.hid hbw
    have HKL := Lib.hid hkl
    have d1 : (tag != tag) = false := by simp
    have d2 : (!(bytes == bytes)) = false := by cases bytes <;> rfl
    have d3 : ((nn : Int) != (nn : Int)) = false := by simp
    have d4 : (!(bs == bs)) = false := by simp
    have ht1 := HT1.out
    have ht2 := HT2.out
    clear hcell hcelm hat ham hbw hx hy hkl hkm hbt hbm hk had hae
    go_wp2
    go_quiet (fail)
    have HBQ := Lib.hid (show Below w.heap.size w (wr.drewN nq) from below_drewN HBW.out _)
    have HREL := Lib.hid (show FSm l w (.int .i64 ((k + 1 : Nat) : Int)) (wr.drewN nq) from ⟨k + 1, HKL.out, rfl, HBQ.out⟩)
    clear c0 c1 c2 c3 e0 e1 e2 e3 ht1 ht2
    go_wp2
    go_roundw
    case rel => exact HREL.out
    case measure => simp [intOf]; omega
/-- Fields of the call's own, the same as l. -/
def RetFO (T : TypeId) (w : World) (l : List FN) (e : Ending) (w' : World) : Prop := ∃ (fs : List FN) (v : Value), e = .returned v ∧ fs.map FN.wf = l.map FN.wf ∧ w'.ownsRow w.heap.size T 4 v fs.length (fs.flatMap fcells) ∧ (∀ f ∈ fs, IsBT f.b f.lv w') ∧ Below w.heap.size w w'
def FOwnRel (l : List FN) (w : World) (out i : Value) (wr : World) : Prop := ∃ (k : Nat) (fs : List FN), k ≤ l.length ∧ i = .int .i64 (k : Int) ∧ fs.map FN.wf = (l.take k).map FN.wf ∧ wr.ownsRow w.heap.size 41 4 out fs.length (fs.flatMap fcells) ∧ (∀ f ∈ fs, IsBT f.b f.lv wr) ∧ Below w.heap.size w wr
set_option maxHeartbeats 8000000 in
set_option maxRecDepth 100000 in
theorem fownK_any (l : List FN) (v : Value) (w : World) (h : IsFields l v w) (hl : l.length ≤ 1000) :
    Calls Try.prog 9 #[v] w (RetFO 41 w l) := by
  obtain ⟨A, n, c, rfl⟩ := h.1.shape
  obtain ⟨eb, heb, hE⟩ := elemFO
  have HEB := Lib.hid hE
  have HF := Lib.hid h
  have HN := Lib.hid h.1.parts.1
  have hn2 : (n : Int) ≤ 1000 := by have := HN.out; omega
  have HST : Hid (FOwnRel l w (.slice (some ⟨w.heap.size, 0, none⟩) 0 0) (.int .i64 0) (w.alloc (.cells #[] 41))) := Lib.hid ⟨0, [], Nat.zero_le _, rfl, rfl, ownW_made w 41 4, by simp, (Below.refl _ _).alloc (Nat.le_refl _) _⟩
  clear h hE
  go_enter Try.func9, Try.ntmps9
  go_wp2
  go_loopw [3, 4] (FOwnRel l w) (fun _ i _ => n - (intOf i).toNat)
  case atStart => exact HST.out
  case round =>
    obtain ⟨k, fs, hk, rfl, hfe, how, hfs, hbw⟩ := hrel
    clear HST
    by_cases hlt : k < n
    case neg =>
      have hlti : ¬ (k : Int) < (n : Int) := by omega
      obtain rfl : k = l.length := by have := HN.out; omega
      rw [List.take_length] at hfe
      have HR := Lib.hid (show RetFO 41 w l (.returned u3) wr from ⟨fs, _, rfl, hfe, how, hfs, hbw⟩)
      clear how hbw hfe hfs
      go_wp2
      go_ret
      exact HR.out
    have hlti : (k : Int) < (n : Int) := by omega
    have hkl : k < l.length := by have := HN.out; omega
    obtain ⟨ad, rfl, had, hcell⟩ := ((HF.out.below hbw).1).at (m := 4) (fun _ => rfl) (by omega) hkl
    have hat := HF.out.2 _ (List.getElem_mem hkl)
    have hfl : fs.length = k := by have h1 := congrArg List.length hfe; rw [List.length_map, List.length_map, List.length_take] at h1; omega
    have htk : (l.take (k + 1)).map FN.wf = (l.take k).map FN.wf ++ [l[k].wf] := by rw [List.take_succ_eq_append_getElem hkl, List.map_append]; rfl
    have hk1 : fs.length + 1 ≤ 1000000000 := by omega
    obtain ⟨x, hx⟩ : ∃ x, x = l[k] := ⟨_, rfl⟩
    rw [← hx] at hcell hat htk
    obtain ⟨c0, c1, c2, c3⟩ := cells4 hcell
    obtain ⟨tag, bytes, nn, bs, lv⟩ := x
    have hbt := hat.byt
    have hbl := hat.len
    dsimp only at c0 c1 c2 c3 hbt hbl
    obtain ⟨bA, bn, bc, rfl⟩ := IsV.shape (f := bv) hbt
    have HBS := Lib.hid hbt
    have HBL := Lib.hid (show bs.length ≤ 1000000000 by omega)
    have HTK := Lib.hid htk
    have HFE := Lib.hid hfe
    have HFL := Lib.hid (show fs.length = fs.length from rfl)
    have HFS := Lib.hid hfs
    have HOW := Lib.hid how
    have HBW := Lib.hid hbw
    have HKL := Lib.hid hkl
    have HLT := Lib.hid (show (ad.add (k * 4)).block < wr.heap.size by rw [add_block]; exact had)
    clear hcell hat htk how hbw hx hkl hbt hbl hk hfe hfl hfs had
    go_wp2_with fail
    refine wp_region_list_tail 25 [.is (u3), .is (.slice (some ad) n c), .is (.int .i64 (k : Int)), .is (.pointer (some (ad.add (k * 4)))), .is (.pointer (some (ad.add (k * 4)))), .is (.int .i64 tag), .is (.slice (some ad) n c), .is (.int .i64 (k : Int)), .is (.pointer (some (ad.add (k * 4)))), .is (.pointer (some ⟨(ad.add (k * 4)).block, (ad.add (k * 4)).off + 1, none⟩)), .is (.bool bytes), .is (.slice (some ad) n c), .is (.int .i64 (k : Int)), .is (.pointer (some (ad.add (k * 4)))), .is (.pointer (some ⟨(ad.add (k * 4)).block, (ad.add (k * 4)).off + 2, none⟩)), .is (.int .u64 (nn : Int)), Fact.none, .is (.slice (some ad) n c), .is (.int .i64 (k : Int)), .is (.pointer (some (ad.add (k * 4)))), .is (.pointer (some ⟨(ad.add (k * 4)).block, (ad.add (k * 4)).off + 3, none⟩)), .is (.slice bA bn bc), Fact.bt bs, Fact.field tag bytes nn bs, Fact.flit tag bytes nn bs] [some 12, some 13, some 14, some 15, some 16, some 17, some 18, some 19, some 20, some 21, some 22, some 23, some 24, some 25, some 26, some 27, some 28, some 29, some 30, some 31, some 32, some 33, some 34, some 35, some 36] (by kernel_rfl) (by kernel_rfl) (by kernel_rfl) (by kernel_rfl) rfl ⟨?_, ?_, ?_, ?_, ?_, ?_, ?_, ?_, ?_, ?_, ?_, ?_, ?_, ?_, ?_, ?_, ?_, ?_, ?_, ?_, ?_, ?_, ?_, ?_, ?_, trivial⟩ ?_
    · intro ρ W1 hb1 H
      exact gives_move rfl (H.old 3 _ (by kernel_rfl) rfl) ⟨rfl, Below.refl _ _⟩
    · intro ρ W1 hb1 H
      exact gives_move rfl (H.old 0 _ (by kernel_rfl) rfl) ⟨rfl, Below.refl _ _⟩
    · intro ρ W1 hb1 H
      exact gives_move rfl (H.old 4 _ (by kernel_rfl) rfl) ⟨rfl, Below.refl _ _⟩
    · intro ρ W1 hb1 H
      exact gives_index_wide (k := k) Try.underlying22 rfield_size rfl (H.new 13 1 (by kernel_rfl)) (H.new 14 2 (by kernel_rfl)) hlt ⟨rfl, Below.refl _ _⟩
    · intro ρ W1 hb1 H
      exact gives_field rfl (H.new 15 3 (by kernel_rfl)) (fun W => rfield_at0 W (ad.add (k * 4))) ⟨rfl, Below.refl _ _⟩
    · intro ρ W1 hb1 H
      exact gives_load rfl (H.new 16 4 (by kernel_rfl)) Try.underlying3 rfl ((hb1.cell (by first | exact HLT.out | (rw [show _ = (ad.add (k * 4)).block from rfl]; exact HLT.out))).trans c0) ⟨rfl, Below.refl _ _⟩
    · intro ρ W1 hb1 H
      exact gives_move rfl (H.old 0 _ (by kernel_rfl) rfl) ⟨rfl, Below.refl _ _⟩
    · intro ρ W1 hb1 H
      exact gives_move rfl (H.old 4 _ (by kernel_rfl) rfl) ⟨rfl, Below.refl _ _⟩
    · intro ρ W1 hb1 H
      exact gives_index_wide (k := k) Try.underlying22 rfield_size rfl (H.new 18 6 (by kernel_rfl)) (H.new 19 7 (by kernel_rfl)) hlt ⟨rfl, Below.refl _ _⟩
    · intro ρ W1 hb1 H
      exact gives_field rfl (H.new 20 8 (by kernel_rfl)) (fun W => rfield_at1 W (ad.add (k * 4))) ⟨rfl, Below.refl _ _⟩
    · intro ρ W1 hb1 H
      exact gives_load rfl (H.new 21 9 (by kernel_rfl)) Try.underlying4 rfl ((hb1.cell (by first | exact HLT.out | (rw [show _ = (ad.add (k * 4)).block from rfl]; exact HLT.out))).trans c1) ⟨rfl, Below.refl _ _⟩
    · intro ρ W1 hb1 H
      exact gives_move rfl (H.old 0 _ (by kernel_rfl) rfl) ⟨rfl, Below.refl _ _⟩
    · intro ρ W1 hb1 H
      exact gives_move rfl (H.old 4 _ (by kernel_rfl) rfl) ⟨rfl, Below.refl _ _⟩
    · intro ρ W1 hb1 H
      exact gives_index_wide (k := k) Try.underlying22 rfield_size rfl (H.new 23 11 (by kernel_rfl)) (H.new 24 12 (by kernel_rfl)) hlt ⟨rfl, Below.refl _ _⟩
    · intro ρ W1 hb1 H
      exact gives_field rfl (H.new 25 13 (by kernel_rfl)) (fun W => rfield_at2 W (ad.add (k * 4))) ⟨rfl, Below.refl _ _⟩
    · intro ρ W1 hb1 H
      exact gives_load rfl (H.new 26 14 (by kernel_rfl)) Try.underlying33 rfl ((hb1.cell (by first | exact HLT.out | (rw [show _ = (ad.add (k * 4)).block from rfl]; exact HLT.out))).trans c2) ⟨rfl, Below.refl _ _⟩
    · intro ρ W1 hb1 H
      refine gives_of (v := .slice (some ⟨W1.heap.size, 0, none⟩) 0 0) (w' := W1.alloc (.cells #[] 5)) ?_ ⟨⟨_, rfl, heap_alloc_new W1 _⟩, (Below.refl _ _).alloc (Nat.le_refl _) _⟩
      simp [execOp, blit_none]
    · intro ρ W1 hb1 H
      exact gives_move rfl (H.old 0 _ (by kernel_rfl) rfl) ⟨rfl, Below.refl _ _⟩
    · intro ρ W1 hb1 H
      exact gives_move rfl (H.old 4 _ (by kernel_rfl) rfl) ⟨rfl, Below.refl _ _⟩
    · intro ρ W1 hb1 H
      exact gives_index_wide (k := k) Try.underlying22 rfield_size rfl (H.new 29 17 (by kernel_rfl)) (H.new 30 18 (by kernel_rfl)) hlt ⟨rfl, Below.refl _ _⟩
    · intro ρ W1 hb1 H
      exact gives_field rfl (H.new 31 19 (by kernel_rfl)) (fun W => rfield_at3 W (ad.add (k * 4))) ⟨rfl, Below.refl _ _⟩
    · intro ρ W1 hb1 H
      exact gives_load rfl (H.new 32 20 (by kernel_rfl)) Try.underlying25 rfl ((hb1.cell (by first | exact HLT.out | (rw [show _ = (ad.add (k * 4)).block from rfl]; exact HLT.out))).trans c3) ⟨rfl, Below.refl _ _⟩
    · intro ρ W1 hb1 H
      obtain ⟨g, e0, hr0⟩ : ∃ g, ρ (.tmp 28) = .slice (some ⟨g, 0, none⟩) 0 0 ∧ Row W1 g 5 [] := (H.new 28 16 (by kernel_rfl))
      exact gives_copy0 elemB rfl e0 (H.new 33 21 (by kernel_rfl)) (HBS.out.below (below_then HBW.out hb1)) hr0 HBL.out fun v' w' h1 h2 => ⟨h1, h2⟩
    · intro ρ W1 hb1 H
      have e2 : ρ (.tmp 17) = .int .i64 tag := (H.new 17 5 (by kernel_rfl))
      have e3 : ρ (.tmp 22) = .bool bytes := (H.new 22 10 (by kernel_rfl))
      have e4 : ρ (.tmp 27) = .int .u64 (nn : Int) := (H.new 27 15 (by kernel_rfl))
      have h0 : IsBT bs (ρ (.tmp 34)) W1 := (H.new 34 22 (by kernel_rfl))
      obtain ⟨A, m, c', e1⟩ := IsV.shape (f := bv) h0.1
      rw [e1] at h0
      refine gives_of (v := .agg #[.int .i64 tag, .bool bytes, .int .u64 (nn : Int), .slice A m c']) (w' := W1) ?_ ⟨⟨A, m, c', rfl, h0⟩, Below.refl _ _⟩
      simp [execOp, e2, e3, e4, e1, obuild_all]
    · intro ρ W1 hb1 H
      obtain ⟨A, m, c', e1, h0⟩ : ∃ A n c, ρ (.tmp 35) = .agg #[.int .i64 tag, .bool bytes, .int .u64 (nn : Int), .slice A n c] ∧ IsBT bs (.slice A n c) W1 := (H.new 35 23 (by kernel_rfl))
      refine gives_of (v := .slice (some ⟨W1.heap.size, 0, none⟩) 1 1) (w' := W1.alloc (.cells #[.int .i64 tag, .bool bytes, .int .u64 (nn : Int), .slice A m c'] 41)) ?_ ⟨⟨_, A, m, c', rfl, heap_alloc_new W1 _, h0.below ((Below.refl _ _).alloc (Nat.le_refl _) _)⟩, (Below.refl _ _).alloc (Nat.le_refl _) _⟩
      simp [execOp, e1, olit_one]
    · intro vs W1 hb1 hfs
      have f0 : vs 0 = u3 := hfs 0 (by decide)
      have f24 : ∃ g A n c, vs 24 = .slice (some ⟨g, 0, none⟩) 1 1 ∧ Row W1 g 41 [.int .i64 tag, .bool bytes, .int .u64 (nn : Int), .slice A n c] ∧ IsBT bs (.slice A n c) W1 := hfs 24 (by decide)
      clear hfs
      simp only [putAll, Nat.zero_add, Nat.reduceAdd, List.drop_succ_cons, List.drop_zero]
      generalize vs 1 = z1
      generalize vs 2 = z2
      generalize vs 3 = z3
      generalize vs 4 = z4
      generalize vs 5 = z5
      generalize vs 6 = z6
      generalize vs 7 = z7
      generalize vs 8 = z8
      generalize vs 9 = z9
      generalize vs 10 = z10
      generalize vs 11 = z11
      generalize vs 12 = z12
      generalize vs 13 = z13
      generalize vs 14 = z14
      generalize vs 15 = z15
      generalize vs 16 = z16
      generalize vs 17 = z17
      generalize vs 18 = z18
      generalize vs 19 = z19
      generalize vs 20 = z20
      generalize vs 21 = z21
      generalize vs 22 = z22
      generalize vs 23 = z23
      generalize vs 24 = z24 at f24 ⊢
      simp only [f0, Act.put, List.setIfInBounds_toArray, List.set_cons_succ, List.set_cons_zero]
      clear f0
      obtain ⟨g, A, m, c', rfl, hlit, hbt⟩ := f24
      have hb2 : Below w.heap.size w W1 := below_then HBW.out hb1
      have ho2 := own_below HOW.out hb1
      have hz2 := hb2.size
      have hll := hlit.lies 0
      rw [List.drop_zero] at hll
      have HFS2 := Lib.hid (fun f hf => (HFS.out f hf).below hb1)
      have HB2 := Lib.hid hb2
      have HO2 := Lib.hid ho2
      have HZ2 := Lib.hid hz2
      have HLL := Lib.hid hll
      have HBT := Lib.hid hbt
      clear hlit hb1 hb2 ho2 hz2 hll hbt
      go_wp2_with (at_builtin; refine wpList_joinW HEB.out rfl _ _ rfl w.heap.size _ _ _ _ 1 1 _ w rfl rfl (by simp) rfl HLL.out fcells_one HO2.out HB2.out HZ2.out hk1 heb ?_)
      intro v7 w7 ho7 hb7 hg7 _
      have HREL := Lib.hid (show FOwnRel l w v7 (.int .i64 ((k + 1 : Nat) : Int)) w7 from ⟨k + 1, fs ++ [⟨tag, bytes, nn, bs, .slice A m c'⟩], HKL.out, rfl, by rw [List.map_append, HFE.out, HTK.out]; rfl, by rw [List.flatMap_append, List.length_append]; exact ho7, fun f hf => by
        rcases List.mem_append.1 hf with hf | hf
        · exact (HFS2.out f hf).grown HO2.out (by decide) hg7
        · rw [List.mem_singleton.1 hf]; exact HBT.out.grown HO2.out (by decide) hg7, hb7⟩)
      clear ho7 hb7 hg7
      go_wp2
      go_roundw
      case rel => exact HREL.out
      case measure => simp [intOf]; omega
end Go.Proofs.Ytocodcceimeiiaa
