
/- The program's contracts of layer 12: Schema, Row. -/

import Derived.Test.YtljepanilfbjgaaDoorKSchema

import Derived.Test.YtljepanilfbjgaaDoorKNamedO

import Derived.Test.YtljepanilfbjgaaDoorKMayO

namespace Go.Proofs.YtljepanilfbjgaaDoor

open Go.RowKit

theorem gives_notK {P : Program} {o : Oper} {ρ : Operand → Value} {w : World} {R : Value → World → Prop} {t : TypeId} {x : Operand} {b : Bool} (ho : o.op = .unOp .not t x) (hx : ρ x = .bool b) (hR : R (.bool !b) w) : Gives P o ρ w R := by
  refine gives_of (v := .bool !b) (w' := w) ?_ hR
  simp [execOp, ho, hx, go_sem]
/-- x[:h] of a slice of structs. -/
theorem gives_uptoK {P : Program} {o : Oper} {ρ : Operand → Value} {w : World} {R : Value → World → Prop} {t e : TypeId} {m : Nat} (ht : P.underlying t = some (.slice e)) (hs : ∀ W, (sizeOf e).run P W = .ok m W) {x y : Operand} {ad : Addr} {n c h : Nat} (ho : o.op = .slice t x none (some y) none) (hx : ρ x = .slice (some ad) n c) (hy : ρ y = .int .i64 (h : Int)) (hc : h ≤ c)
    (hR : R (.slice (some ad) h c) w) : Gives P o ρ w R := by
  refine gives_slice ho hx (lo' := none) rfl (hi' := some (.int .i64 (h : Int))) (by simp [hy]) (mx' := none) rfl (v := .slice (some ad) h c) (w' := w) ?_ hR
  have he : P.elem t = e := by simp [Program.elem, ht]
  rw [run_sliceAt_slice w t _ _ _ _ (by rw [he]; exact ht), run_slice_h w t (some ad) n c (by rw [he]; exact ht) .i64 (h : Int) (by omega) (by omega), he, hs]
  simp [sliced, Addr.add]
theorem col_fld0 (W : World) (g : Nat) : (Instr.fieldAt 36 (.pointer (some ⟨g, 0, none⟩)) 0).run Tryd.prog W = .ok (.pointer (some ⟨g, 0, none⟩)) W := by
  simp [Instr.fieldAt, run_underlying Tryd.underlying36, Instr.sureAddr, fieldPlace, Addr.add]
theorem col_fld1 (W : World) (g : Nat) : (Instr.fieldAt 36 (.pointer (some ⟨g, 0, none⟩)) 1).run Tryd.prog W = .ok (.pointer (some ⟨g, 1, none⟩)) W := col_kind W ⟨g, 0, none⟩
theorem knamed_false {l : List CC} {s : ByteArray} {k : Nat} (h : knamed (l.take k) s = false) (j : Nat) (hj : j < l.length) (hk : j < k) : l[j].s.toList ≠ s.toList := by
  intro e
  unfold knamed at h
  rw [List.any_eq_false] at h
  refine h l[j] (List.mem_take_iff_getElem.2 ⟨j, by omega, rfl⟩) (by simp [e])
theorem knamed_true {l : List CC} {s : ByteArray} {k : Nat} (h : knamed (l.take k) s = true) : ∃ j, ∃ hj : j < l.length, j < k ∧ l[j].s.toList = s.toList := by
  unfold knamed at h
  rw [List.any_eq_true] at h
  obtain ⟨x, hx, h⟩ := h
  obtain ⟨j, hj, rfl⟩ := List.mem_take_iff_getElem.1 hx
  exact ⟨j, by omega, by omega, by simpa using h⟩
set_option maxHeartbeats 4000000 in
set_option maxRecDepth 100000 in
theorem kschema_any (l : List CC) (v : Value) (w : World) (h1 : IsR ccells l v w) (hs : ∀ x ∈ l, x.s.size ≤ maxLen) (hb : l.length ≤ 1000000) :
    Calls Tryd.prog 10 #[v] w fun e w' => e = .returned (.int .i64 (kscheme l)) ∧ Below w.heap.size w w' := by
  obtain ⟨A, n, c, rfl⟩ := h1.shape
  have HN := Lib.hid h1.parts.1
  have HNC := Lib.hid h1.parts.2.2.1
  have H1 := Lib.hid h1
  have HSS := Lib.hid hs
  have hn6 : n ≤ 1000000 := by have := HN.out; omega
  clear h1 hs hb
  by_cases hb1 : 1 ≤ n ∧ n ≤ 6
  · have d1 : ((n : Int) == 0) = false := by simp; omega
    have d2 : decide ((6 : Int) < (n : Int)) = false := decide_eq_false (by omega)
    go_enter Tryd.func10, Tryd.ntmps10
    go_wp2
    go_loopw [15] (SchRel l w) (fun i _ => n - (intOf i).toNat)
    case atStart => exact ⟨0, Nat.zero_le _, rfl, fun j h => absurd h (Nat.not_lt_zero _), Below.refl _ _⟩
    case round =>
      obtain ⟨k, hk, rfl, hfit, hbw⟩ := hrel
      have hkn : k ≤ n := by have := HN.out; omega
      have HF := Lib.hid hfit
      have HB := Lib.hid hbw
      clear hfit hk
      by_cases hlt : k < n
      · have hkl : k < l.length := by have := HN.out; omega
        have hlti : (k : Int) < (n : Int) := by omega
        obtain ⟨ad, rfl, had, hcell⟩ := (H1.out.below hbw).at (m := 2) (fun _ => rfl) (by omega) hkl
        have k0 : wr.cell? (ad.add (k * 2)) = some (.string l[k].s) := hcell 0 (by omega)
        have k1 : wr.cell? ⟨(ad.add (k * 2)).block, (ad.add (k * 2)).off + 1, none⟩ = some (.int .i64 l[k].kind) := by have h := hcell 1 (by omega); rw [← add_add] at h; exact h
        have HS := Lib.hid (HSS.out _ (List.getElem_mem hkl))
        have HNO := Lib.hid (kscheme_no hkl)
        have HOK : Hid (kname l[k].s = true → kknown l[k].kind = true → knamed (l.take k) l[k].s = false → kcolok l k) := Lib.hid fun e1 e2 e3 => ⟨hkl, e1, ((kknown_iff _).1 e2).1, ((kknown_iff _).1 e2).2, fun j hj => knamed_false e3 j (by omega) hj⟩
        have HN1 : Hid (kknown l[k].kind = false → kscheme l = 20) := Lib.hid fun e => HNO.out fun ⟨_, _, h2, h3, _⟩ => by rw [(kknown_iff _).2 ⟨h2, h3⟩] at e; cases e
        have HN2 : Hid (kname l[k].s = false → kscheme l = 20) := Lib.hid fun e => HNO.out fun ⟨_, h2, _⟩ => by rw [h2] at e; cases e
        have HN3 : Hid (knamed (l.take k) l[k].s = true → kscheme l = 20) := Lib.hid fun e => HNO.out fun ⟨_, _, _, _, h2⟩ => by
          obtain ⟨j, hj, hjk, he⟩ := knamed_true e
          exact h2 j hjk he
        have hzz := HB.out.size
        have hT := (H1.out.take (m := 2) (fun _ => rfl) (Nat.le_of_lt hlt)).below HB.out
        have hTL : (l.take k).length ≤ 1000000 := by rw [List.length_take]; omega
        have hkc : k ≤ c := by have := HNC.out; omega
        clear hcell had hbw HNO
        generalize l[k].s = y at *
        generalize l[k].kind = kd at *
        obtain ⟨lk, hlk⟩ : ∃ lk, lk = l.take k := ⟨_, rfl⟩
        rw [← hlk] at HOK HN3 hT hTL
        clear hlk
        have hc : Row (wr.alloc (.cells #[.string y, .int .i64 kd] 36)) wr.heap.size 36 [.string y, .int .i64 kd] := heap_alloc_new wr _
        have HRW := Lib.hid hc
        have hBA := HB.out.alloc hzz (.cells #[.string y, .int .i64 kd] 36)
        have HBA := Lib.hid hBA
        have HT := Lib.hid (hT.below ((Below.refl _ _).alloc (Nat.le_refl _) (.cells #[.string y, .int .i64 kd] 36)))
        have HTL := Lib.hid hTL
        have HKC := Lib.hid hkc
        clear hc hBA hT hTL hzz hkc
        have HK := Lib.hid (fun W => kknown_any kd W)
        have HM := Lib.hid (fun W => kname_any y W HS.out)
        have HD := Lib.hid (fun W (h : IsR ccells lk (.slice (some ad) k c) W) => knamed_any lk _ y W h HTL.out)
        cases b1 : kknown kd
        · rw [b1] at HK
          have HX := Lib.hid (HN1.out b1)
          clear b1 HN1 HN2 HN3 HOK
          go_wp2
          refine wp_region_list [.is (.pointer (some ⟨wr.heap.size, 1, none⟩)), .is (.int .i64 kd), .is (.bool false), .is (.bool true), .is (.bool true), .any, .any, .any, .any, .is (.bool true), .is (.bool true), .any, .any, .any, .any, .any, .any, .is (.bool true)] [some 20, some 21, some 22, some 23, some 24, some 25, some 26, some 27, some 28, some 29, some 30, some 31, some 32, some 33, some 34, some 35, some 36, some 37] (by kernel_rfl) (by kernel_rfl) (by kernel_rfl) rfl ⟨?_, ?_, ?_, ?_, ?_, ?_, ?_, ?_, ?_, ?_, ?_, ?_, ?_, ?_, ?_, ?_, ?_, ?_, trivial⟩ ?_
          · intro ρ W1 hb1 H
            exact gives_field rfl (H.old 4 _ (by kernel_rfl) rfl) (fun W => col_fld1 W _) ⟨rfl, Below.refl _ _⟩
          · intro ρ W1 hb1 H
            exact gives_load rfl (H.new 20 0 (by kernel_rfl)) Tryd.underlying3 rfl ((HRW.out.below hb1 HRW.out.lt).cell 1) ⟨rfl, Below.refl _ _⟩
          · intro ρ W1 hb1 H
            have e0 : ρ (.tmp 21) = .int .i64 kd := H.new 21 1 (by kernel_rfl)
            refine gives_call rfl (fun _ _ => by kernel_rfl) (H.func _) (args := #[.int .i64 kd]) (by simp [e0]) ?_
            exact (HK.out W1).mono fun e w' h => ⟨_, h.1, rfl, h.2 ▸ Below.refl _ _⟩
          · intro ρ W1 hb1 H
            exact gives_notK rfl (H.new 22 2 (by kernel_rfl)) ⟨rfl, Below.refl _ _⟩
          · intro ρ W1 hb1 H
            exact gives_move rfl (H.new 23 3 (by kernel_rfl)) ⟨rfl, Below.refl _ _⟩
          · intro ρ W1 hb1 H d hd
            have hd' : (some 24 : Option Tmp) = some d := hd
            injection hd' with hd'
            subst hd'
            exact ⟨(fun hh => by cases hh.symm.trans (H.new 24 4 (by kernel_rfl))), fun _ => trivial⟩
          · intro ρ W1 hb1 H d hd
            have hd' : (some 24 : Option Tmp) = some d := hd
            injection hd' with hd'
            subst hd'
            exact ⟨(fun hh => by cases hh.symm.trans (H.new 24 4 (by kernel_rfl))), fun _ => trivial⟩
          · intro ρ W1 hb1 H d hd
            have hd' : (some 24 : Option Tmp) = some d := hd
            injection hd' with hd'
            subst hd'
            exact ⟨(fun hh => by cases hh.symm.trans (H.new 24 4 (by kernel_rfl))), fun _ => trivial⟩
          · intro ρ W1 hb1 H d hd
            have hd' : (some 24 : Option Tmp) = some d := hd
            injection hd' with hd'
            subst hd'
            exact ⟨(fun hh => by cases hh.symm.trans (H.new 24 4 (by kernel_rfl))), fun _ => trivial⟩
          · intro ρ W1 hb1 H
            exact gives_pick_t rfl (H.new 24 4 (by kernel_rfl)) (H.const _) ⟨rfl, Below.refl _ _⟩
          · intro ρ W1 hb1 H
            exact gives_move rfl (H.new 29 9 (by kernel_rfl)) ⟨rfl, Below.refl _ _⟩
          · intro ρ W1 hb1 H d hd
            have hd' : (some 30 : Option Tmp) = some d := hd
            injection hd' with hd'
            subst hd'
            exact ⟨(fun hh => by cases hh.symm.trans (H.new 30 10 (by kernel_rfl))), fun _ => trivial⟩
          · intro ρ W1 hb1 H d hd
            have hd' : (some 30 : Option Tmp) = some d := hd
            injection hd' with hd'
            subst hd'
            exact ⟨(fun hh => by cases hh.symm.trans (H.new 30 10 (by kernel_rfl))), fun _ => trivial⟩
          · intro ρ W1 hb1 H d hd
            have hd' : (some 30 : Option Tmp) = some d := hd
            injection hd' with hd'
            subst hd'
            exact ⟨(fun hh => by cases hh.symm.trans (H.new 30 10 (by kernel_rfl))), fun _ => trivial⟩
          · intro ρ W1 hb1 H d hd
            have hd' : (some 30 : Option Tmp) = some d := hd
            injection hd' with hd'
            subst hd'
            exact ⟨(fun hh => by cases hh.symm.trans (H.new 30 10 (by kernel_rfl))), fun _ => trivial⟩
          · intro ρ W1 hb1 H d hd
            have hd' : (some 30 : Option Tmp) = some d := hd
            injection hd' with hd'
            subst hd'
            exact ⟨(fun hh => by cases hh.symm.trans (H.new 30 10 (by kernel_rfl))), fun _ => trivial⟩
          · intro ρ W1 hb1 H d hd
            have hd' : (some 30 : Option Tmp) = some d := hd
            injection hd' with hd'
            subst hd'
            exact ⟨(fun hh => by cases hh.symm.trans (H.new 30 10 (by kernel_rfl))), fun _ => trivial⟩
          · intro ρ W1 hb1 H
            exact gives_pick_t rfl (H.new 30 10 (by kernel_rfl)) (H.const _) ⟨rfl, Below.refl _ _⟩
          · intro vs W1 hb1 hfs
            have f17 : vs 17 = .bool true := hfs 17 (by decide)
            clear hfs
            simp only [putAll, Nat.zero_add, Nat.reduceAdd]
            generalize vs 0 = z0
            generalize vs 1 = z1
            generalize vs 2 = z2
            generalize vs 3 = z3
            generalize vs 4 = z4
            generalize vs 5 = z5
            generalize vs 6 = z6
            generalize vs 7 = z7
            generalize vs 8 = z8
            generalize vs 9 = z9
            generalize vs 10 = z10
            generalize vs 11 = z11
            generalize vs 12 = z12
            generalize vs 13 = z13
            generalize vs 14 = z14
            generalize vs 15 = z15
            generalize vs 16 = z16
            simp only [f17, Act.put, List.setIfInBounds_toArray, List.set_cons_succ, List.set_cons_zero]
            clear f17
            go_wp2
            go_ret
            exact ⟨by rw [HX.out]; rfl, below_then HBA.out hb1⟩
        · rw [b1] at HK
          cases b2 : kname y
          · rw [b2] at HM
            have HX := Lib.hid (HN2.out b2)
            clear b1 b2 HN1 HN2 HN3 HOK
            go_wp2
            refine wp_region_list [.is (.pointer (some ⟨wr.heap.size, 1, none⟩)), .is (.int .i64 kd), .is (.bool true), .is (.bool false), .is (.bool false), .is (.pointer (some ⟨wr.heap.size, 0, none⟩)), .is (.string y), .is (.bool false), .is (.bool true), .is (.bool true), .is (.bool true), .any, .any, .any, .any, .any, .any, .is (.bool true)] [some 20, some 21, some 22, some 23, some 24, some 25, some 26, some 27, some 28, some 29, some 30, some 31, some 32, some 33, some 34, some 35, some 36, some 37] (by kernel_rfl) (by kernel_rfl) (by kernel_rfl) rfl ⟨?_, ?_, ?_, ?_, ?_, ?_, ?_, ?_, ?_, ?_, ?_, ?_, ?_, ?_, ?_, ?_, ?_, ?_, trivial⟩ ?_
            · intro ρ W1 hb1 H
              exact gives_field rfl (H.old 4 _ (by kernel_rfl) rfl) (fun W => col_fld1 W _) ⟨rfl, Below.refl _ _⟩
            · intro ρ W1 hb1 H
              exact gives_load rfl (H.new 20 0 (by kernel_rfl)) Tryd.underlying3 rfl ((HRW.out.below hb1 HRW.out.lt).cell 1) ⟨rfl, Below.refl _ _⟩
            · intro ρ W1 hb1 H
              have e0 : ρ (.tmp 21) = .int .i64 kd := H.new 21 1 (by kernel_rfl)
              refine gives_call rfl (fun _ _ => by kernel_rfl) (H.func _) (args := #[.int .i64 kd]) (by simp [e0]) ?_
              exact (HK.out W1).mono fun e w' h => ⟨_, h.1, rfl, h.2 ▸ Below.refl _ _⟩
            · intro ρ W1 hb1 H
              exact gives_notK rfl (H.new 22 2 (by kernel_rfl)) ⟨rfl, Below.refl _ _⟩
            · intro ρ W1 hb1 H
              exact gives_move rfl (H.new 23 3 (by kernel_rfl)) ⟨rfl, Below.refl _ _⟩
            · intro ρ W1 hb1 H d hd
              have hd' : (some 24 : Option Tmp) = some d := hd
              injection hd' with hd'
              subst hd'
              refine ⟨fun _ => ?_, fun hne => absurd (H.new 24 4 (by kernel_rfl)) hne⟩
              exact gives_field rfl (H.old 4 _ (by kernel_rfl) rfl) (fun W => col_fld0 W _) ⟨rfl, Below.refl _ _⟩
            · intro ρ W1 hb1 H d hd
              have hd' : (some 24 : Option Tmp) = some d := hd
              injection hd' with hd'
              subst hd'
              refine ⟨fun _ => ?_, fun hne => absurd (H.new 24 4 (by kernel_rfl)) hne⟩
              exact gives_load rfl (H.new 25 5 (by kernel_rfl)) Tryd.underlying9 rfl ((HRW.out.below hb1 HRW.out.lt).cell 0) ⟨rfl, Below.refl _ _⟩
            · intro ρ W1 hb1 H d hd
              have hd' : (some 24 : Option Tmp) = some d := hd
              injection hd' with hd'
              subst hd'
              refine ⟨fun _ => ?_, fun hne => absurd (H.new 24 4 (by kernel_rfl)) hne⟩
              have e0 : ρ (.tmp 26) = .string y := H.new 26 6 (by kernel_rfl)
              refine gives_call rfl (fun _ _ => by kernel_rfl) (H.func _) (args := #[.string y]) (by simp [e0]) ?_
              exact (HM.out W1).mono fun e w' h => ⟨_, h.1, rfl, h.2⟩
            · intro ρ W1 hb1 H d hd
              have hd' : (some 24 : Option Tmp) = some d := hd
              injection hd' with hd'
              subst hd'
              refine ⟨fun _ => ?_, fun hne => absurd (H.new 24 4 (by kernel_rfl)) hne⟩
              exact gives_notK rfl (H.new 27 7 (by kernel_rfl)) ⟨rfl, Below.refl _ _⟩
            · intro ρ W1 hb1 H
              exact gives_pick_f rfl (H.new 24 4 (by kernel_rfl)) (H.new 28 8 (by kernel_rfl)) ⟨rfl, Below.refl _ _⟩
            · intro ρ W1 hb1 H
              exact gives_move rfl (H.new 29 9 (by kernel_rfl)) ⟨rfl, Below.refl _ _⟩
            · intro ρ W1 hb1 H d hd
              have hd' : (some 30 : Option Tmp) = some d := hd
              injection hd' with hd'
              subst hd'
              exact ⟨(fun hh => by cases hh.symm.trans (H.new 30 10 (by kernel_rfl))), fun _ => trivial⟩
            · intro ρ W1 hb1 H d hd
              have hd' : (some 30 : Option Tmp) = some d := hd
              injection hd' with hd'
              subst hd'
              exact ⟨(fun hh => by cases hh.symm.trans (H.new 30 10 (by kernel_rfl))), fun _ => trivial⟩
            · intro ρ W1 hb1 H d hd
              have hd' : (some 30 : Option Tmp) = some d := hd
              injection hd' with hd'
              subst hd'
              exact ⟨(fun hh => by cases hh.symm.trans (H.new 30 10 (by kernel_rfl))), fun _ => trivial⟩
            · intro ρ W1 hb1 H d hd
              have hd' : (some 30 : Option Tmp) = some d := hd
              injection hd' with hd'
              subst hd'
              exact ⟨(fun hh => by cases hh.symm.trans (H.new 30 10 (by kernel_rfl))), fun _ => trivial⟩
            · intro ρ W1 hb1 H d hd
              have hd' : (some 30 : Option Tmp) = some d := hd
              injection hd' with hd'
              subst hd'
              exact ⟨(fun hh => by cases hh.symm.trans (H.new 30 10 (by kernel_rfl))), fun _ => trivial⟩
            · intro ρ W1 hb1 H d hd
              have hd' : (some 30 : Option Tmp) = some d := hd
              injection hd' with hd'
              subst hd'
              exact ⟨(fun hh => by cases hh.symm.trans (H.new 30 10 (by kernel_rfl))), fun _ => trivial⟩
            · intro ρ W1 hb1 H
              exact gives_pick_t rfl (H.new 30 10 (by kernel_rfl)) (H.const _) ⟨rfl, Below.refl _ _⟩
            · intro vs W1 hb1 hfs
              have f17 : vs 17 = .bool true := hfs 17 (by decide)
              clear hfs
              simp only [putAll, Nat.zero_add, Nat.reduceAdd]
              generalize vs 0 = z0
              generalize vs 1 = z1
              generalize vs 2 = z2
              generalize vs 3 = z3
              generalize vs 4 = z4
              generalize vs 5 = z5
              generalize vs 6 = z6
              generalize vs 7 = z7
              generalize vs 8 = z8
              generalize vs 9 = z9
              generalize vs 10 = z10
              generalize vs 11 = z11
              generalize vs 12 = z12
              generalize vs 13 = z13
              generalize vs 14 = z14
              generalize vs 15 = z15
              generalize vs 16 = z16
              simp only [f17, Act.put, List.setIfInBounds_toArray, List.set_cons_succ, List.set_cons_zero]
              clear f17
              go_wp2
              go_ret
              exact ⟨by rw [HX.out]; rfl, below_then HBA.out hb1⟩
          · rw [b2] at HM
            cases b3 : knamed lk y
            · rw [b3] at HD
              have HX := Lib.hid (HOK.out b2 b1 b3)
              clear b1 b2 b3 HN1 HN2 HN3 HOK
              go_wp2
              refine wp_region_list [.is (.pointer (some ⟨wr.heap.size, 1, none⟩)), .is (.int .i64 kd), .is (.bool true), .is (.bool false), .is (.bool false), .is (.pointer (some ⟨wr.heap.size, 0, none⟩)), .is (.string y), .is (.bool true), .is (.bool false), .is (.bool false), .is (.bool false), .is (.slice (some ad) n c), .is (.int .i64 (k : Int)), .is (.slice (some ad) k c), .is (.pointer (some ⟨wr.heap.size, 0, none⟩)), .is (.string y), .is (.bool false), .is (.bool false)] [some 20, some 21, some 22, some 23, some 24, some 25, some 26, some 27, some 28, some 29, some 30, some 31, some 32, some 33, some 34, some 35, some 36, some 37] (by kernel_rfl) (by kernel_rfl) (by kernel_rfl) rfl ⟨?_, ?_, ?_, ?_, ?_, ?_, ?_, ?_, ?_, ?_, ?_, ?_, ?_, ?_, ?_, ?_, ?_, ?_, trivial⟩ ?_
              · intro ρ W1 hb1 H
                exact gives_field rfl (H.old 4 _ (by kernel_rfl) rfl) (fun W => col_fld1 W _) ⟨rfl, Below.refl _ _⟩
              · intro ρ W1 hb1 H
                exact gives_load rfl (H.new 20 0 (by kernel_rfl)) Tryd.underlying3 rfl ((HRW.out.below hb1 HRW.out.lt).cell 1) ⟨rfl, Below.refl _ _⟩
              · intro ρ W1 hb1 H
                have e0 : ρ (.tmp 21) = .int .i64 kd := H.new 21 1 (by kernel_rfl)
                refine gives_call rfl (fun _ _ => by kernel_rfl) (H.func _) (args := #[.int .i64 kd]) (by simp [e0]) ?_
                exact (HK.out W1).mono fun e w' h => ⟨_, h.1, rfl, h.2 ▸ Below.refl _ _⟩
              · intro ρ W1 hb1 H
                exact gives_notK rfl (H.new 22 2 (by kernel_rfl)) ⟨rfl, Below.refl _ _⟩
              · intro ρ W1 hb1 H
                exact gives_move rfl (H.new 23 3 (by kernel_rfl)) ⟨rfl, Below.refl _ _⟩
              · intro ρ W1 hb1 H d hd
                have hd' : (some 24 : Option Tmp) = some d := hd
                injection hd' with hd'
                subst hd'
                refine ⟨fun _ => ?_, fun hne => absurd (H.new 24 4 (by kernel_rfl)) hne⟩
                exact gives_field rfl (H.old 4 _ (by kernel_rfl) rfl) (fun W => col_fld0 W _) ⟨rfl, Below.refl _ _⟩
              · intro ρ W1 hb1 H d hd
                have hd' : (some 24 : Option Tmp) = some d := hd
                injection hd' with hd'
                subst hd'
                refine ⟨fun _ => ?_, fun hne => absurd (H.new 24 4 (by kernel_rfl)) hne⟩
                exact gives_load rfl (H.new 25 5 (by kernel_rfl)) Tryd.underlying9 rfl ((HRW.out.below hb1 HRW.out.lt).cell 0) ⟨rfl, Below.refl _ _⟩
              · intro ρ W1 hb1 H d hd
                have hd' : (some 24 : Option Tmp) = some d := hd
                injection hd' with hd'
                subst hd'
                refine ⟨fun _ => ?_, fun hne => absurd (H.new 24 4 (by kernel_rfl)) hne⟩
                have e0 : ρ (.tmp 26) = .string y := H.new 26 6 (by kernel_rfl)
                refine gives_call rfl (fun _ _ => by kernel_rfl) (H.func _) (args := #[.string y]) (by simp [e0]) ?_
                exact (HM.out W1).mono fun e w' h => ⟨_, h.1, rfl, h.2⟩
              · intro ρ W1 hb1 H d hd
                have hd' : (some 24 : Option Tmp) = some d := hd
                injection hd' with hd'
                subst hd'
                refine ⟨fun _ => ?_, fun hne => absurd (H.new 24 4 (by kernel_rfl)) hne⟩
                exact gives_notK rfl (H.new 27 7 (by kernel_rfl)) ⟨rfl, Below.refl _ _⟩
              · intro ρ W1 hb1 H
                exact gives_pick_f rfl (H.new 24 4 (by kernel_rfl)) (H.new 28 8 (by kernel_rfl)) ⟨rfl, Below.refl _ _⟩
              · intro ρ W1 hb1 H
                exact gives_move rfl (H.new 29 9 (by kernel_rfl)) ⟨rfl, Below.refl _ _⟩
              · intro ρ W1 hb1 H d hd
                have hd' : (some 30 : Option Tmp) = some d := hd
                injection hd' with hd'
                subst hd'
                refine ⟨fun _ => ?_, fun hne => absurd (H.new 30 10 (by kernel_rfl)) hne⟩
                exact gives_move rfl (H.old 0 _ (by kernel_rfl) rfl) ⟨rfl, Below.refl _ _⟩
              · intro ρ W1 hb1 H d hd
                have hd' : (some 30 : Option Tmp) = some d := hd
                injection hd' with hd'
                subst hd'
                refine ⟨fun _ => ?_, fun hne => absurd (H.new 30 10 (by kernel_rfl)) hne⟩
                exact gives_move rfl (H.old 3 _ (by kernel_rfl) rfl) ⟨rfl, Below.refl _ _⟩
              · intro ρ W1 hb1 H d hd
                have hd' : (some 30 : Option Tmp) = some d := hd
                injection hd' with hd'
                subst hd'
                refine ⟨fun _ => ?_, fun hne => absurd (H.new 30 10 (by kernel_rfl)) hne⟩
                exact gives_uptoK Tryd.underlying27 col_size rfl (H.new 31 11 (by kernel_rfl)) (H.new 32 12 (by kernel_rfl)) HKC.out ⟨rfl, Below.refl _ _⟩
              · intro ρ W1 hb1 H d hd
                have hd' : (some 30 : Option Tmp) = some d := hd
                injection hd' with hd'
                subst hd'
                refine ⟨fun _ => ?_, fun hne => absurd (H.new 30 10 (by kernel_rfl)) hne⟩
                exact gives_field rfl (H.old 4 _ (by kernel_rfl) rfl) (fun W => col_fld0 W _) ⟨rfl, Below.refl _ _⟩
              · intro ρ W1 hb1 H d hd
                have hd' : (some 30 : Option Tmp) = some d := hd
                injection hd' with hd'
                subst hd'
                refine ⟨fun _ => ?_, fun hne => absurd (H.new 30 10 (by kernel_rfl)) hne⟩
                exact gives_load rfl (H.new 34 14 (by kernel_rfl)) Tryd.underlying9 rfl ((HRW.out.below hb1 HRW.out.lt).cell 0) ⟨rfl, Below.refl _ _⟩
              · intro ρ W1 hb1 H d hd
                have hd' : (some 30 : Option Tmp) = some d := hd
                injection hd' with hd'
                subst hd'
                refine ⟨fun _ => ?_, fun hne => absurd (H.new 30 10 (by kernel_rfl)) hne⟩
                have e0 : ρ (.tmp 33) = .slice (some ad) k c := H.new 33 13 (by kernel_rfl)
                have e1 : ρ (.tmp 35) = .string y := H.new 35 15 (by kernel_rfl)
                refine gives_call rfl (fun _ _ => by kernel_rfl) (H.func _) (args := #[.slice (some ad) k c, .string y]) (by simp [e0, e1]) ?_
                exact (HD.out W1 (HT.out.below hb1)).mono fun e w' h => ⟨_, h.1, rfl, h.2⟩
              · intro ρ W1 hb1 H
                exact gives_pick_f rfl (H.new 30 10 (by kernel_rfl)) (H.new 36 16 (by kernel_rfl)) ⟨rfl, Below.refl _ _⟩
              · intro vs W1 hb1 hfs
                have f17 : vs 17 = .bool false := hfs 17 (by decide)
                clear hfs
                simp only [putAll, Nat.zero_add, Nat.reduceAdd]
                generalize vs 0 = z0
                generalize vs 1 = z1
                generalize vs 2 = z2
                generalize vs 3 = z3
                generalize vs 4 = z4
                generalize vs 5 = z5
                generalize vs 6 = z6
                generalize vs 7 = z7
                generalize vs 8 = z8
                generalize vs 9 = z9
                generalize vs 10 = z10
                generalize vs 11 = z11
                generalize vs 12 = z12
                generalize vs 13 = z13
                generalize vs 14 = z14
                generalize vs 15 = z15
                generalize vs 16 = z16
                simp only [f17, Act.put, List.setIfInBounds_toArray, List.set_cons_succ, List.set_cons_zero]
                clear f17
                have HB1 := Lib.hid (below_then HBA.out hb1)
                clear hb1
                go_wp2
                go_roundw
                case rel =>
                  refine ⟨k + 1, hkl, by go_num, fun m h => ?_, HB1.out⟩
                  by_cases hm : m = k
                  · subst hm; exact HX.out
                  · exact HF.out m (by omega)
                case measure => simp [intOf]; omega
            · rw [b3] at HD
              have HX := Lib.hid (HN3.out b3)
              clear b1 b2 b3 HN1 HN2 HN3 HOK
              go_wp2
              refine wp_region_list [.is (.pointer (some ⟨wr.heap.size, 1, none⟩)), .is (.int .i64 kd), .is (.bool true), .is (.bool false), .is (.bool false), .is (.pointer (some ⟨wr.heap.size, 0, none⟩)), .is (.string y), .is (.bool true), .is (.bool false), .is (.bool false), .is (.bool false), .is (.slice (some ad) n c), .is (.int .i64 (k : Int)), .is (.slice (some ad) k c), .is (.pointer (some ⟨wr.heap.size, 0, none⟩)), .is (.string y), .is (.bool true), .is (.bool true)] [some 20, some 21, some 22, some 23, some 24, some 25, some 26, some 27, some 28, some 29, some 30, some 31, some 32, some 33, some 34, some 35, some 36, some 37] (by kernel_rfl) (by kernel_rfl) (by kernel_rfl) rfl ⟨?_, ?_, ?_, ?_, ?_, ?_, ?_, ?_, ?_, ?_, ?_, ?_, ?_, ?_, ?_, ?_, ?_, ?_, trivial⟩ ?_
              · intro ρ W1 hb1 H
                exact gives_field rfl (H.old 4 _ (by kernel_rfl) rfl) (fun W => col_fld1 W _) ⟨rfl, Below.refl _ _⟩
              · intro ρ W1 hb1 H
                exact gives_load rfl (H.new 20 0 (by kernel_rfl)) Tryd.underlying3 rfl ((HRW.out.below hb1 HRW.out.lt).cell 1) ⟨rfl, Below.refl _ _⟩
              · intro ρ W1 hb1 H
                have e0 : ρ (.tmp 21) = .int .i64 kd := H.new 21 1 (by kernel_rfl)
                refine gives_call rfl (fun _ _ => by kernel_rfl) (H.func _) (args := #[.int .i64 kd]) (by simp [e0]) ?_
                exact (HK.out W1).mono fun e w' h => ⟨_, h.1, rfl, h.2 ▸ Below.refl _ _⟩
              · intro ρ W1 hb1 H
                exact gives_notK rfl (H.new 22 2 (by kernel_rfl)) ⟨rfl, Below.refl _ _⟩
              · intro ρ W1 hb1 H
                exact gives_move rfl (H.new 23 3 (by kernel_rfl)) ⟨rfl, Below.refl _ _⟩
              · intro ρ W1 hb1 H d hd
                have hd' : (some 24 : Option Tmp) = some d := hd
                injection hd' with hd'
                subst hd'
                refine ⟨fun _ => ?_, fun hne => absurd (H.new 24 4 (by kernel_rfl)) hne⟩
                exact gives_field rfl (H.old 4 _ (by kernel_rfl) rfl) (fun W => col_fld0 W _) ⟨rfl, Below.refl _ _⟩
              · intro ρ W1 hb1 H d hd
                have hd' : (some 24 : Option Tmp) = some d := hd
                injection hd' with hd'
                subst hd'
                refine ⟨fun _ => ?_, fun hne => absurd (H.new 24 4 (by kernel_rfl)) hne⟩
                exact gives_load rfl (H.new 25 5 (by kernel_rfl)) Tryd.underlying9 rfl ((HRW.out.below hb1 HRW.out.lt).cell 0) ⟨rfl, Below.refl _ _⟩
              · intro ρ W1 hb1 H d hd
                have hd' : (some 24 : Option Tmp) = some d := hd
                injection hd' with hd'
                subst hd'
                refine ⟨fun _ => ?_, fun hne => absurd (H.new 24 4 (by kernel_rfl)) hne⟩
                have e0 : ρ (.tmp 26) = .string y := H.new 26 6 (by kernel_rfl)
                refine gives_call rfl (fun _ _ => by kernel_rfl) (H.func _) (args := #[.string y]) (by simp [e0]) ?_
                exact (HM.out W1).mono fun e w' h => ⟨_, h.1, rfl, h.2⟩
              · intro ρ W1 hb1 H d hd
                have hd' : (some 24 : Option Tmp) = some d := hd
                injection hd' with hd'
                subst hd'
                refine ⟨fun _ => ?_, fun hne => absurd (H.new 24 4 (by kernel_rfl)) hne⟩
                exact gives_notK rfl (H.new 27 7 (by kernel_rfl)) ⟨rfl, Below.refl _ _⟩
              · intro ρ W1 hb1 H
                exact gives_pick_f rfl (H.new 24 4 (by kernel_rfl)) (H.new 28 8 (by kernel_rfl)) ⟨rfl, Below.refl _ _⟩
              · intro ρ W1 hb1 H
                exact gives_move rfl (H.new 29 9 (by kernel_rfl)) ⟨rfl, Below.refl _ _⟩
              · intro ρ W1 hb1 H d hd
                have hd' : (some 30 : Option Tmp) = some d := hd
                injection hd' with hd'
                subst hd'
                refine ⟨fun _ => ?_, fun hne => absurd (H.new 30 10 (by kernel_rfl)) hne⟩
                exact gives_move rfl (H.old 0 _ (by kernel_rfl) rfl) ⟨rfl, Below.refl _ _⟩
              · intro ρ W1 hb1 H d hd
                have hd' : (some 30 : Option Tmp) = some d := hd
                injection hd' with hd'
                subst hd'
                refine ⟨fun _ => ?_, fun hne => absurd (H.new 30 10 (by kernel_rfl)) hne⟩
                exact gives_move rfl (H.old 3 _ (by kernel_rfl) rfl) ⟨rfl, Below.refl _ _⟩
              · intro ρ W1 hb1 H d hd
                have hd' : (some 30 : Option Tmp) = some d := hd
                injection hd' with hd'
                subst hd'
                refine ⟨fun _ => ?_, fun hne => absurd (H.new 30 10 (by kernel_rfl)) hne⟩
                exact gives_uptoK Tryd.underlying27 col_size rfl (H.new 31 11 (by kernel_rfl)) (H.new 32 12 (by kernel_rfl)) HKC.out ⟨rfl, Below.refl _ _⟩
              · intro ρ W1 hb1 H d hd
                have hd' : (some 30 : Option Tmp) = some d := hd
                injection hd' with hd'
                subst hd'
                refine ⟨fun _ => ?_, fun hne => absurd (H.new 30 10 (by kernel_rfl)) hne⟩
                exact gives_field rfl (H.old 4 _ (by kernel_rfl) rfl) (fun W => col_fld0 W _) ⟨rfl, Below.refl _ _⟩
              · intro ρ W1 hb1 H d hd
                have hd' : (some 30 : Option Tmp) = some d := hd
                injection hd' with hd'
                subst hd'
                refine ⟨fun _ => ?_, fun hne => absurd (H.new 30 10 (by kernel_rfl)) hne⟩
                exact gives_load rfl (H.new 34 14 (by kernel_rfl)) Tryd.underlying9 rfl ((HRW.out.below hb1 HRW.out.lt).cell 0) ⟨rfl, Below.refl _ _⟩
              · intro ρ W1 hb1 H d hd
                have hd' : (some 30 : Option Tmp) = some d := hd
                injection hd' with hd'
                subst hd'
                refine ⟨fun _ => ?_, fun hne => absurd (H.new 30 10 (by kernel_rfl)) hne⟩
                have e0 : ρ (.tmp 33) = .slice (some ad) k c := H.new 33 13 (by kernel_rfl)
                have e1 : ρ (.tmp 35) = .string y := H.new 35 15 (by kernel_rfl)
                refine gives_call rfl (fun _ _ => by kernel_rfl) (H.func _) (args := #[.slice (some ad) k c, .string y]) (by simp [e0, e1]) ?_
                exact (HD.out W1 (HT.out.below hb1)).mono fun e w' h => ⟨_, h.1, rfl, h.2⟩
              · intro ρ W1 hb1 H
                exact gives_pick_f rfl (H.new 30 10 (by kernel_rfl)) (H.new 36 16 (by kernel_rfl)) ⟨rfl, Below.refl _ _⟩
              · intro vs W1 hb1 hfs
                have f17 : vs 17 = .bool true := hfs 17 (by decide)
                clear hfs
                simp only [putAll, Nat.zero_add, Nat.reduceAdd]
                generalize vs 0 = z0
                generalize vs 1 = z1
                generalize vs 2 = z2
                generalize vs 3 = z3
                generalize vs 4 = z4
                generalize vs 5 = z5
                generalize vs 6 = z6
                generalize vs 7 = z7
                generalize vs 8 = z8
                generalize vs 9 = z9
                generalize vs 10 = z10
                generalize vs 11 = z11
                generalize vs 12 = z12
                generalize vs 13 = z13
                generalize vs 14 = z14
                generalize vs 15 = z15
                generalize vs 16 = z16
                simp only [f17, Act.put, List.setIfInBounds_toArray, List.set_cons_succ, List.set_cons_zero]
                clear f17
                go_wp2
                go_ret
                exact ⟨by rw [HX.out]; rfl, below_then HBA.out hb1⟩
      · obtain rfl : k = n := by omega
        have hlti : ¬ (k : Int) < (k : Int) := by omega
        have hk : kscheme l = 0 := by
          unfold kscheme
          rw [if_pos ⟨by have := HN.out; omega, by have := HN.out; omega, by rw [HN.out]; exact HF.out⟩]
        have HK := Lib.hid hk
        clear hk
        go_wp2
        go_ret
        exact ⟨by rw [HK.out]; rfl, HB.out⟩
  · have hk : kscheme l = 20 := by
      unfold kscheme
      rw [if_neg]
      intro h
      exact hb1 ⟨by rw [← HN.out]; exact h.1, by rw [← HN.out]; exact h.2.1⟩
    have HK := Lib.hid hk
    clear hk
    by_cases h0 : n = 0
    · subst h0
      go_enter Tryd.func10, Tryd.ntmps10
      go_wp2
      go_ret
      exact ⟨by rw [HK.out]; rfl, Below.refl _ _⟩
    · have d1 : ((n : Int) == 0) = false := by simp; omega
      have d2 : decide ((6 : Int) < (n : Int)) = true := decide_eq_true (by omega)
      clear h0
      go_enter Tryd.func10, Tryd.ntmps10
      go_wp2
      go_ret
      exact ⟨by rw [HK.out]; rfl, Below.refl _ _⟩
def RowRelO (l : List CC) (r : List CV) (w : World) (i : Value) (wr : World) : Prop := ∃ k : Nat, k ≤ r.length ∧ i = .int .i64 (k : Int) ∧ kfits l r k ∧ Below w.heap.size w wr
set_option maxHeartbeats 4000000 in
set_option maxRecDepth 100000 in
theorem krow_any (l : List CC) (r : List CV) (v1 v2 : Value) (w : World) (h1 : IsR ccells l v1 w) (h2 : IsR kcells r v2 w) (hs : ∀ x ∈ r, x.s.size ≤ maxLen) (hi : ∀ x ∈ r, x.inInt) (hk : ∀ x ∈ l, -9223372036854775808 ≤ x.kind ∧ x.kind ≤ 9223372036854775807) (hb : l.length ≤ 1000000) (hb' : r.length ≤ 1000000) :
    Calls Tryd.prog 12 #[v1, v2] w fun e w' => e = .returned (.int .i64 (krow l r)) ∧ Below w.heap.size w w' := by
  obtain ⟨A, n, c, rfl⟩ := h1.shape
  obtain ⟨B, m, d, rfl⟩ := h2.shape
  have HN := Lib.hid h1.parts.1
  have HM := Lib.hid h2.parts.1
  have H1 := Lib.hid h1
  have H2 := Lib.hid h2
  have HSS := Lib.hid hs
  have HII := Lib.hid hi
  have HKK := Lib.hid hk
  have hn6 : n ≤ 1000000 := by have := HN.out; omega
  have hm6 : m ≤ 1000000 := by have := HM.out; omega
  clear h1 h2 hs hb hb' hi hk
  by_cases hnm : n = m
  · subst hnm
    go_enter Tryd.func12, Tryd.ntmps12
    go_wp2
    go_loopw [14] (RowRelO l r w) (fun i _ => n - (intOf i).toNat)
    case atStart => exact ⟨0, Nat.zero_le _, rfl, fun j _ _ h => absurd h (Nat.not_lt_zero _), Below.refl _ _⟩
    case round =>
      obtain ⟨k, hk, rfl, hfit, hbw⟩ := hrel
      have hkn : k ≤ n := by have := HM.out; omega
      have HF := Lib.hid hfit
      have HB := Lib.hid hbw
      clear hfit hk
      by_cases hlt : k < n
      · have hkl : k < l.length := by have := HN.out; omega
        have hkr : k < r.length := by have := HM.out; omega
        have hlti : (k : Int) < (n : Int) := by omega
        obtain ⟨ad, rfl, had, hcell⟩ := (H1.out.below hbw).at (m := 2) (fun _ => rfl) (by omega) hkl
        obtain ⟨bd, rfl, hbd, hcell2⟩ := (H2.out.below hbw).at (m := 3) (fun _ => rfl) (by omega) hkr
        have HAB := Lib.hid had
        have HKD0 : wr.cell? (ad.add (k * 2 + 1)) = some (.int .i64 l[k].kind) := hcell 1 (by omega)
        have g0 : wr.cell? (bd.add (k * 3)) = some (.bool r[k].null) := hcell2 0 (by omega)
        have g1 : wr.cell? ⟨(bd.add (k * 3)).block, (bd.add (k * 3)).off + 1, none⟩ = some (.int .i64 r[k].n) := by have h := hcell2 1 (by omega); rw [← add_add] at h; exact h
        have g2 : wr.cell? ⟨(bd.add (k * 3)).block, (bd.add (k * 3)).off + 2, none⟩ = some (.string r[k].s) := by have h := hcell2 2 (by omega); rw [← add_add] at h; exact h
        have HS0 : r[k].s.size ≤ maxLen := HSS.out _ (List.getElem_mem hkr)
        have HI0 := HII.out _ (List.getElem_mem hkr)
        have HK0 := HKK.out _ (List.getElem_mem hkl)
        have HNO := Lib.hid (krow_no hkl hkr)
        have HNX := Lib.hid (kfits_next HF.out hkl hkr)
        generalize l[k].kind = kd at *
        generalize r[k] = x at *
        obtain ⟨xb, xn, xs⟩ := x
        dsimp only at g0 g1 g2 HS0
        have hzz := HB.out.size
        have hc : Row (wr.alloc (.cells #[.bool xb, .int .i64 xn, .string xs] 23)) wr.heap.size 23 [.bool xb, .int .i64 xn, .string xs] := heap_alloc_new wr _
        have HRW := Lib.hid hc
        have HBA := Lib.hid (HB.out.alloc hzz (.cells #[.bool xb, .int .i64 xn, .string xs] 23))
        have HKD := Lib.hid (((Below.refl wr.heap.size wr).alloc (Nat.le_refl _) (.cells #[.bool xb, .int .i64 xn, .string xs] 23)).cell (p := ad.add (k * 2 + 1)) (by rw [add_block]; exact had) |>.trans HKD0)
        have HAB2 : Hid (ad.block < (wr.alloc (.cells #[.bool xb, .int .i64 xn, .string xs] 23)).heap.size) := Lib.hid (by simp; omega)
        have HM1 := Lib.hid (fun W => kmay_any kd ⟨xb, xn, xs⟩ W HK0 HI0 HS0)
        clear HKD0 HS0 HI0 HK0 hcell hcell2 had hbd hbw hzz hc
        cases hmay : kmay kd ⟨xb, xn, xs⟩
        · rw [hmay] at HM1
          have HX := Lib.hid (HNO.out hmay)
          clear hmay HNO HNX
          go_wp2
          refine wp_region_list [.is (.slice (some ad) n c), .is (.int .i64 (k : Int)), .is (.pointer (some (ad.add (k * 2)))), .is (.pointer (some ((ad.add (k * 2)).add 1))), .is (.int .i64 kd), .is (cv ⟨xb, xn, xs⟩), .is (.bool false), .is (.bool true)] [some 19, some 20, some 21, some 22, some 23, some 24, some 25, some 26] (by kernel_rfl) (by kernel_rfl) (by kernel_rfl) rfl ⟨?_, ?_, ?_, ?_, ?_, ?_, ?_, ?_, trivial⟩ ?_
          · intro ρ W1 hb1 H
            exact gives_move rfl (H.old 0 _ (by kernel_rfl) rfl) ⟨rfl, Below.refl _ _⟩
          · intro ρ W1 hb1 H
            exact gives_move rfl (H.old 5 _ (by kernel_rfl) rfl) ⟨rfl, Below.refl _ _⟩
          · intro ρ W1 hb1 H
            exact gives_index_wide Tryd.underlying27 col_size rfl (H.new 19 0 (by kernel_rfl)) (H.new 20 1 (by kernel_rfl)) hlt ⟨rfl, Below.refl _ _⟩
          · intro ρ W1 hb1 H
            exact gives_field rfl (H.new 21 2 (by kernel_rfl)) (fun W => col_kind W _) ⟨rfl, Below.refl _ _⟩
          · intro ρ W1 hb1 H
            exact gives_load rfl (H.new 22 3 (by kernel_rfl)) Tryd.underlying3 rfl (by rw [add_add]; exact (hb1.cell (by rw [add_block]; exact HAB2.out)).trans HKD.out) ⟨rfl, Below.refl _ _⟩
          · intro ρ W1 hb1 H
            exact gives_load_row (cs := [.bool xb, .int .i64 xn, .string xs]) rfl (H.old 6 _ (by kernel_rfl) rfl) Tryd.underlying23 rfl (by kernel_rfl) (HRW.out.below hb1 HRW.out.lt) ⟨rfl, Below.refl _ _⟩
          · intro ρ W1 hb1 H
            have e0 : ρ (.tmp 23) = .int .i64 kd := H.new 23 4 (by kernel_rfl)
            have e1 : ρ (.tmp 24) = cv ⟨xb, xn, xs⟩ := H.new 24 5 (by kernel_rfl)
            refine gives_call rfl (fun _ _ => by kernel_rfl) (H.func _) (args := #[.int .i64 kd, cv ⟨xb, xn, xs⟩]) (by simp [e0, e1]) ?_
            exact (HM1.out W1).mono fun e w' h => ⟨_, h.1, rfl, h.2⟩
          · intro ρ W1 hb1 H
            exact gives_notK rfl (H.new 25 6 (by kernel_rfl)) ⟨rfl, Below.refl _ _⟩
          · intro vs W1 hb1 hfs
            have f7 : vs 7 = .bool true := hfs 7 (by decide)
            clear hfs
            simp only [putAll, Nat.zero_add, Nat.reduceAdd]
            generalize vs 0 = z0
            generalize vs 1 = z1
            generalize vs 2 = z2
            generalize vs 3 = z3
            generalize vs 4 = z4
            generalize vs 5 = z5
            generalize vs 6 = z6
            simp only [f7, Act.put, List.setIfInBounds_toArray, List.set_cons_succ, List.set_cons_zero]
            clear f7
            go_wp2
            go_ret
            exact ⟨by rw [HX.out]; rfl, below_then HBA.out hb1⟩
        · rw [hmay] at HM1
          have HX := Lib.hid (HNX.out hmay)
          clear hmay HNO HNX
          go_wp2
          refine wp_region_list [.is (.slice (some ad) n c), .is (.int .i64 (k : Int)), .is (.pointer (some (ad.add (k * 2)))), .is (.pointer (some ((ad.add (k * 2)).add 1))), .is (.int .i64 kd), .is (cv ⟨xb, xn, xs⟩), .is (.bool true), .is (.bool false)] [some 19, some 20, some 21, some 22, some 23, some 24, some 25, some 26] (by kernel_rfl) (by kernel_rfl) (by kernel_rfl) rfl ⟨?_, ?_, ?_, ?_, ?_, ?_, ?_, ?_, trivial⟩ ?_
          · intro ρ W1 hb1 H
            exact gives_move rfl (H.old 0 _ (by kernel_rfl) rfl) ⟨rfl, Below.refl _ _⟩
          · intro ρ W1 hb1 H
            exact gives_move rfl (H.old 5 _ (by kernel_rfl) rfl) ⟨rfl, Below.refl _ _⟩
          · intro ρ W1 hb1 H
            exact gives_index_wide Tryd.underlying27 col_size rfl (H.new 19 0 (by kernel_rfl)) (H.new 20 1 (by kernel_rfl)) hlt ⟨rfl, Below.refl _ _⟩
          · intro ρ W1 hb1 H
            exact gives_field rfl (H.new 21 2 (by kernel_rfl)) (fun W => col_kind W _) ⟨rfl, Below.refl _ _⟩
          · intro ρ W1 hb1 H
            exact gives_load rfl (H.new 22 3 (by kernel_rfl)) Tryd.underlying3 rfl (by rw [add_add]; exact (hb1.cell (by rw [add_block]; exact HAB2.out)).trans HKD.out) ⟨rfl, Below.refl _ _⟩
          · intro ρ W1 hb1 H
            exact gives_load_row (cs := [.bool xb, .int .i64 xn, .string xs]) rfl (H.old 6 _ (by kernel_rfl) rfl) Tryd.underlying23 rfl (by kernel_rfl) (HRW.out.below hb1 HRW.out.lt) ⟨rfl, Below.refl _ _⟩
          · intro ρ W1 hb1 H
            have e0 : ρ (.tmp 23) = .int .i64 kd := H.new 23 4 (by kernel_rfl)
            have e1 : ρ (.tmp 24) = cv ⟨xb, xn, xs⟩ := H.new 24 5 (by kernel_rfl)
            refine gives_call rfl (fun _ _ => by kernel_rfl) (H.func _) (args := #[.int .i64 kd, cv ⟨xb, xn, xs⟩]) (by simp [e0, e1]) ?_
            exact (HM1.out W1).mono fun e w' h => ⟨_, h.1, rfl, h.2⟩
          · intro ρ W1 hb1 H
            exact gives_notK rfl (H.new 25 6 (by kernel_rfl)) ⟨rfl, Below.refl _ _⟩
          · intro vs W1 hb1 hfs
            have f7 : vs 7 = .bool false := hfs 7 (by decide)
            clear hfs
            simp only [putAll, Nat.zero_add, Nat.reduceAdd]
            generalize vs 0 = z0
            generalize vs 1 = z1
            generalize vs 2 = z2
            generalize vs 3 = z3
            generalize vs 4 = z4
            generalize vs 5 = z5
            generalize vs 6 = z6
            simp only [f7, Act.put, List.setIfInBounds_toArray, List.set_cons_succ, List.set_cons_zero]
            clear f7
            have HB1 := Lib.hid (below_then HBA.out hb1)
            clear hb1
            go_wp2
            go_roundw
            case rel =>
              exact ⟨k + 1, hkr, by go_num, HX.out, HB1.out⟩
            case measure => simp [intOf]; omega
      · obtain rfl : k = n := by omega
        have hlti : ¬ (k : Int) < (k : Int) := by omega
        have hk : krow l r = 0 := by
          unfold krow
          rw [if_pos ⟨by rw [HN.out, HM.out], by rw [HN.out]; exact HF.out⟩]
        have HK := Lib.hid hk
        clear hk
        go_wp2
        go_ret
        exact ⟨by rw [HK.out]; rfl, HB.out⟩
  · have hne : ((m : Int) != (n : Int)) = true := by simpa using fun h => hnm (by omega)
    have hk : krow l r = 21 := by
      unfold krow
      rw [if_neg]
      intro h
      exact hnm (by rw [← HN.out, ← HM.out]; exact h.1)
    have HK := Lib.hid hk
    clear hk
    go_enter Tryd.func12, Tryd.ntmps12
    go_wp2
    go_ret
    exact ⟨by rw [HK.out]; rfl, Below.refl _ _⟩
end Go.Proofs.YtljepanilfbjgaaDoor
