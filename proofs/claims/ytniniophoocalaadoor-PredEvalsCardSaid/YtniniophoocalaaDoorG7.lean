/- Texts that the claims of this seat share, part 7: HHld HCls HIs HSt HShown HTurn HOwn. -/
import Derived.StillTailTactics
import Derived.Test.YtniniophoocalaaDoorG6
/- Predicates' own contracts: mayHold. Written by gen_hpred.py. -/





namespace Go.Proofs.YtniniophoocalaaDoor

open Go.RowKit

theorem hval_at0 (W : World) (g : Nat) : (Instr.fieldAt 41 (.pointer (some ⟨g, 0, none⟩)) 0).run Tryd.prog W = .ok (.pointer (some ⟨g, 0, none⟩)) W := by kernel_rfl
theorem add0H (g j : Nat) : (⟨g, 0, none⟩ : Addr).add j = ⟨g, j, none⟩ := by unfold Addr.add; split <;> simp_all
def HHoldRel (kd : Int) (l : List CV) (W : World) (i : Value) (wr : World) : Prop := ∃ k : Nat, k ≤ l.length ∧ i = .int .i64 (k : Int) ∧ (l.take k).all (hpsome kd) = true ∧ Below W.heap.size W wr
set_option maxHeartbeats 16000000 in
set_option maxRecDepth 100000 in
theorem hhold_any (cols : List CC) (cv_ : Value) (n : HN) (w : World) (hc : IsR ccells cols cv_ w) (hn : HAt n w) (hcol : 4 ≤ n.op → n.op ≤ 7 → 0 ≤ n.col ∧ n.col < (cols.length : Int)) :
    Calls Tryd.prog 22 #[cv_, hpv n] w fun e w' => e = .returned (.bool (hholdE (hpks cols) n)) ∧ Below w.heap.size w w' := by
  obtain ⟨op, col, ⟨nb, nn, ns⟩, vals, ls, vv, lv⟩ := n
  have HAT := Lib.hid hn
  obtain ⟨vA, vm, vc, rfl⟩ := hn.vals.shape
  have HCV := Lib.hid hc
  obtain ⟨cA, cn, cc, rfl⟩ := hc.shape
  have HCN := Lib.hid hc.parts.1
  obtain ⟨ks, hks⟩ : ∃ ks, ks = hpks cols := ⟨_, rfl⟩
  rw [← hks]
  have HKS := Lib.hid hks
  have hvmI : (vm : Int) ≤ 9223372036854775807 := by have h := hn.vals.parts; have h2 := h.2.2.1; have h3 := h.2.2.2.1; unfold maxLen at h3; omega
  dsimp only at hcol
  have hb1 : Below w.heap.size w (w.alloc (.cells #[.int .i64 op, .int .i64 col, .bool nb, .int .i64 nn, .string ns, .slice vA vm vc, lv] 51)) := (Below.refl _ _).alloc (Nat.le_refl _) _
  have RP := Lib.hid (box_rowP op col nb nn ns (.slice vA vm vc) lv w)
  have HB1 := Lib.hid hb1
  have hz1 : (w.alloc (.cells #[.int .i64 op, .int .i64 col, .bool nb, .int .i64 nn, .string ns, .slice vA vm vc, lv] 51)).heap.size = w.heap.size + 1 := by simp
  unfold hpv hpcells
  dsimp only
  have b0 := RP.out.cell 0
  have b1 := RP.out.cell 1
  have b2 := RP.out.cell 2
  have b3 := RP.out.cell 3
  have b4 := RP.out.cell 4
  have b5 := RP.out.cell 5
  have b6 := RP.out.cell 6
  clear hn hc hks hb1
  by_cases hop : 4 ≤ op ∧ op ≤ 7
  · obtain ⟨h0, h1⟩ := hcol hop.1 hop.2
    obtain ⟨cx, rfl⟩ := Int.eq_ofNat_of_zero_le h0
    have hcx : cx < cols.length := by omega
    have hcxn : cx < cn := by have := HCN.out; omega
    obtain ⟨cad, hCA, _, _⟩ := HCV.out.at (m := 2) (fun _ => rfl) (by omega) hcx
    subst hCA
    obtain ⟨kd, hkd⟩ : ∃ kd, kd = cols[cx].kind := ⟨_, rfl⟩
    have HGK : Hid (ks.getD (cx : Int).toNat 0 = kd) := Lib.hid (by rw [HKS.out, Int.toNat_natCast, hkd]; unfold hpks; simp [List.getD, List.getElem?_eq_getElem hcx])
    have HKD : Hid (∀ X, Below w.heap.size w X → X.cell? ((cad.add (cx * 2)).add 1) = some (.int .i64 kd)) := Lib.hid (fun X hX => by
      obtain ⟨a, hA, _, hc⟩ := (HCV.out.below hX).at (m := 2) (fun _ => rfl) (by omega) hcx
      injection hA with hA
      subst hA
      rw [add_add, hc 1 (by omega), hkd]
      rfl)
    clear hkd hcol h0 h1
    by_cases h7 : op = 7
    · subst h7
      clear hop hz1
      have HVM := Lib.hid HAT.out.vals.parts.1
      dsimp only at HVM
      by_cases hv0 : vm = 0
      · subst hv0
        have HF : Hid (hholdE ks ⟨7, (cx : Int), ⟨nb, nn, ns⟩, vals, ls, .slice vA 0 vc, lv⟩ = false) := Lib.hid (by unfold hholdE; dsimp only; rw [if_neg (by omega), if_pos rfl, decide_eq_false (by have := HVM.out; omega)]; rfl)
        go_enter Tryd.func22, Tryd.ntmps22
        go_wp2
        go_ret
        exact ⟨by rw [HF.out]; try rfl, HB1.out⟩
      have dv0 : ((vm : Int) == 0) = false := by simp; omega
      by_cases hv10 : 10 < vm
      · have HF : Hid (hholdE ks ⟨7, (cx : Int), ⟨nb, nn, ns⟩, vals, ls, .slice vA vm vc, lv⟩ = false) := Lib.hid (by unfold hholdE; dsimp only; rw [if_neg (by omega), if_pos rfl, decide_eq_false (by have := HVM.out; omega)]; rfl)
        have dv1 : decide ((10 : Int) < (vm : Int)) = true := decide_eq_true (by omega)
        go_enter Tryd.func22, Tryd.ntmps22
        go_wp2
        go_ret
        exact ⟨by rw [HF.out]; try rfl, HB1.out⟩
      have dv1 : decide ((10 : Int) < (vm : Int)) = false := decide_eq_false (by omega)
      have HTL : Hid (hholdE ks ⟨7, (cx : Int), ⟨nb, nn, ns⟩, vals, ls, .slice vA vm vc, lv⟩ = vals.all (hpsome kd)) := Lib.hid (by unfold hholdE; dsimp only; rw [if_neg (by omega), if_pos rfl, decide_eq_true (by have := HVM.out; omega), HGK.out, Bool.true_and])
      obtain ⟨W2, hW2⟩ : ∃ W2, W2 = w.alloc (.cells #[.int .i64 7, .int .i64 (cx : Int), .bool nb, .int .i64 nn, .string ns, .slice vA vm vc, lv] 51) := ⟨_, rfl⟩
      have HV : Hid (IsR kcells vals (.slice vA vm vc) W2) := Lib.hid (by rw [hW2]; exact HAT.out.vals.below HB1.out)
      have HNUM := HVM
      have HWB : Hid (Below w.heap.size w W2) := Lib.hid (by rw [hW2]; exact HB1.out)
      have HPW : Hid (Row W2 w.heap.size 51 [.int .i64 7, .int .i64 (cx : Int), .bool nb, .int .i64 nn, .string ns, .slice vA vm vc, lv]) := Lib.hid (by rw [hW2]; exact RP.out)
      have HSZ : Hid (∀ x ∈ vals, x.s.size ≤ maxLen) := Lib.hid HAT.out.svals
      obtain ⟨va0, rfl⟩ : ∃ a, vA = some a := by
        cases vA with
        | none => exact absurd (HAT.out.vals.parts.2.1 rfl) hv0
        | some a => exact ⟨a, rfl⟩
      go_enter Tryd.func22, Tryd.ntmps22
      have HSTH : Hid (HHoldRel kd vals W2 (.int .i64 0) W2) := Lib.hid ⟨0, Nat.zero_le _, rfl, rfl, Below.refl _ _⟩
      go_wp2
      rw [← hW2]
      clear hW2 b0 b1 b2 b3 b4 b5 b6
      go_loopw [33] (HHoldRel kd vals W2) (fun i _ => vm - (intOf i).toNat)
      case atStart => exact HSTH.out
      case round =>
        obtain ⟨k, hk, rfl, hall, hbw⟩ := hrel
        have hkn : k ≤ vm := by have := HNUM.out; omega
        have HALL := Lib.hid hall
        have HBW := Lib.hid (below_then HWB.out hbw)
        have HVR := Lib.hid (HV.out.below hbw)
        have HPR0 := Lib.hid (HPW.out.below hbw HPW.out.lt)
        have HBWW := Lib.hid hbw
        clear hk hall hbw
        by_cases hlt : k < vm
        · have hkl : k < (vals).length := by have := HNUM.out; omega
          have hlti : (k : Int) < (vm : Int) := by omega
          obtain ⟨va, hVA, _, hcell⟩ := HVR.out.at (m := 3) (fun _ => rfl) (by omega) hkl
          injection hVA with hVA
          subst hVA
          obtain ⟨x, hx⟩ : ∃ x, x = (vals)[k] := ⟨_, rfl⟩
          rw [← hx] at hcell
          obtain ⟨k0, k1, k2⟩ := cells3 hcell
          have hxm : x ∈ (vals) := by rw [hx]; exact List.getElem_mem hkl
          have HXS := Lib.hid (HSZ.out x hxm)
          have HSN := Lib.hid (show ((vals).take (k + 1)).all (hpsome kd) = hpsome kd x by rw [List.take_succ_eq_append_getElem hkl, List.all_append, HALL.out, hx]; simp)
          have HNO := Lib.hid (fun h : hpsome kd x = false => HTL.out.trans (show (vals).all (hpsome kd) = false by
            rw [Bool.eq_false_iff]
            intro h2
            rw [List.all_eq_true.1 h2 x hxm] at h
            cases h))
          obtain ⟨xb, xn, xs⟩ := x
          dsimp only at k0 k1 k2
          have hbx : Below wr.heap.size wr (wr.alloc (.cells #[.bool xb, .int .i64 xn, .string xs] 41)) := (Below.refl _ _).alloc (Nat.le_refl _) _
          have HXR : Hid (Row (wr.alloc (.cells #[.bool xb, .int .i64 xn, .string xs] 41)) wr.heap.size 41 [.bool xb, .int .i64 xn, .string xs]) := Lib.hid (box_rowH ⟨xb, xn, xs⟩ wr)
          have HPR := Lib.hid (HPR0.out.below hbx HPR0.out.lt)
          have HBX := Lib.hid (below_then HBW.out hbx)
          have HBXW := Lib.hid (below_then HBWW.out hbx)
          clear hcell hx hxm hbx
          cases xb with
          | true =>
            have HF := Lib.hid (HNO.out (by unfold hpsome; simp))
            go_wp2_with fail
            refine wp_region_list [.is (.pointer (some ⟨wr.heap.size, 0, none⟩)), .is (.bool true), .is (.bool true), .any, .any, .any, .any, .any, .any, .any, .any, .any, .is (.bool true)] [some 37, some 38, some 39, some 40, some 41, some 42, some 43, some 44, some 45, some 46, some 47, some 48, some 49] (by kernel_rfl) (by kernel_rfl) (by kernel_rfl) rfl ⟨?_, ?_, ?_, ?_, ?_, ?_, ?_, ?_, ?_, ?_, ?_, ?_, ?_, trivial⟩ ?_
            · intro ρ W1 hb1 H
              exact gives_field rfl (H.old 7 _ (by kernel_rfl) rfl) (fun W => hval_at0 W wr.heap.size) ⟨rfl, Below.refl _ _⟩
            · intro ρ W1 hb1 H
              exact gives_load rfl (H.new 37 0 (by kernel_rfl)) Tryd.underlying4 rfl ((hb1.cell HXR.out.lt).trans (HXR.out.cell 0)) ⟨rfl, Below.refl _ _⟩
            · intro ρ W1 hb1 H
              exact gives_move rfl (H.new 38 1 (by kernel_rfl)) ⟨rfl, Below.refl _ _⟩
            · intro ρ W1 hb1 H d hd
              have hd' : (some 39 : Option Tmp) = some d := hd
              injection hd' with hd'
              subst hd'
              exact ⟨(fun hh => by cases hh.symm.trans (H.new 39 2 (by kernel_rfl))), fun _ => trivial⟩
            · intro ρ W1 hb1 H d hd
              have hd' : (some 39 : Option Tmp) = some d := hd
              injection hd' with hd'
              subst hd'
              exact ⟨(fun hh => by cases hh.symm.trans (H.new 39 2 (by kernel_rfl))), fun _ => trivial⟩
            · intro ρ W1 hb1 H d hd
              have hd' : (some 39 : Option Tmp) = some d := hd
              injection hd' with hd'
              subst hd'
              exact ⟨(fun hh => by cases hh.symm.trans (H.new 39 2 (by kernel_rfl))), fun _ => trivial⟩
            · intro ρ W1 hb1 H d hd
              have hd' : (some 39 : Option Tmp) = some d := hd
              injection hd' with hd'
              subst hd'
              exact ⟨(fun hh => by cases hh.symm.trans (H.new 39 2 (by kernel_rfl))), fun _ => trivial⟩
            · intro ρ W1 hb1 H d hd
              have hd' : (some 39 : Option Tmp) = some d := hd
              injection hd' with hd'
              subst hd'
              exact ⟨(fun hh => by cases hh.symm.trans (H.new 39 2 (by kernel_rfl))), fun _ => trivial⟩
            · intro ρ W1 hb1 H d hd
              have hd' : (some 39 : Option Tmp) = some d := hd
              injection hd' with hd'
              subst hd'
              exact ⟨(fun hh => by cases hh.symm.trans (H.new 39 2 (by kernel_rfl))), fun _ => trivial⟩
            · intro ρ W1 hb1 H d hd
              have hd' : (some 39 : Option Tmp) = some d := hd
              injection hd' with hd'
              subst hd'
              exact ⟨(fun hh => by cases hh.symm.trans (H.new 39 2 (by kernel_rfl))), fun _ => trivial⟩
            · intro ρ W1 hb1 H d hd
              have hd' : (some 39 : Option Tmp) = some d := hd
              injection hd' with hd'
              subst hd'
              exact ⟨(fun hh => by cases hh.symm.trans (H.new 39 2 (by kernel_rfl))), fun _ => trivial⟩
            · intro ρ W1 hb1 H d hd
              have hd' : (some 39 : Option Tmp) = some d := hd
              injection hd' with hd'
              subst hd'
              exact ⟨(fun hh => by cases hh.symm.trans (H.new 39 2 (by kernel_rfl))), fun _ => trivial⟩
            · intro ρ W1 hb1 H
              exact gives_pick_t rfl (H.new 39 2 (by kernel_rfl)) (H.const _) ⟨rfl, Below.refl _ _⟩
            · intro vs W1 hb1 hfs
              have f12 : vs 12 = .bool true := hfs 12 (by decide)
              clear hfs
              simp only [putAll, Nat.zero_add, Nat.reduceAdd]
              generalize vs 0 = z0
              generalize vs 1 = z1
              generalize vs 2 = z2
              generalize vs 3 = z3
              generalize vs 4 = z4
              generalize vs 5 = z5
              generalize vs 6 = z6
              generalize vs 7 = z7
              generalize vs 8 = z8
              generalize vs 9 = z9
              generalize vs 10 = z10
              generalize vs 11 = z11
              simp only [f12, Act.put, List.setIfInBounds_toArray, List.set_cons_succ, List.set_cons_zero]
              clear f12
              have HBE := Lib.hid (HBX.out.trans (hb1.mono HBX.out.size))
              clear hb1
              go_wp2
              go_ret
              exact ⟨by rw [HF.out]; try rfl, HBE.out⟩
          | false =>
            obtain ⟨ok, hok⟩ : ∃ ok, ok = kmay kd ⟨false, xn, xs⟩ := ⟨_, rfl⟩
            have HPS : Hid (hpsome kd ⟨false, xn, xs⟩ = ok) := Lib.hid (by rw [hok]; unfold hpsome; simp)
            have HMY := Lib.hid (fun W => kmay_free kd ⟨false, xn, xs⟩ W HXS.out)
            rw [← hok] at HMY
            rw [HPS.out] at HNO HSN
            clear hok
            go_wp2_with fail
            refine wp_region_list [.is (.pointer (some ⟨wr.heap.size, 0, none⟩)), .is (.bool false), .is (.bool false), .is (.slice (some cad) cn cc), .is (.pointer (some ⟨w.heap.size, 1, none⟩)), .is (.int .i64 (cx : Int)), .is (.pointer (some (cad.add (cx * 2)))), .is (.pointer (some ((cad.add (cx * 2)).add 1))), .is (.int .i64 kd), .is (cv ⟨false, xn, xs⟩), .is (.bool ok), .is (.bool (!ok)), .is (.bool (!ok))] [some 37, some 38, some 39, some 40, some 41, some 42, some 43, some 44, some 45, some 46, some 47, some 48, some 49] (by kernel_rfl) (by kernel_rfl) (by kernel_rfl) rfl ⟨?_, ?_, ?_, ?_, ?_, ?_, ?_, ?_, ?_, ?_, ?_, ?_, ?_, trivial⟩ ?_
            · intro ρ W1 hb1 H
              exact gives_field rfl (H.old 7 _ (by kernel_rfl) rfl) (fun W => hval_at0 W wr.heap.size) ⟨rfl, Below.refl _ _⟩
            · intro ρ W1 hb1 H
              exact gives_load rfl (H.new 37 0 (by kernel_rfl)) Tryd.underlying4 rfl ((hb1.cell HXR.out.lt).trans (HXR.out.cell 0)) ⟨rfl, Below.refl _ _⟩
            · intro ρ W1 hb1 H
              exact gives_move rfl (H.new 38 1 (by kernel_rfl)) ⟨rfl, Below.refl _ _⟩
            · intro ρ W1 hb1 H d hd
              have hd' : (some 39 : Option Tmp) = some d := hd
              injection hd' with hd'
              subst hd'
              refine ⟨fun _ => ?_, fun hne => absurd (H.new 39 2 (by kernel_rfl)) hne⟩
              exact gives_move rfl (H.old 0 _ (by kernel_rfl) rfl) ⟨rfl, Below.refl _ _⟩
            · intro ρ W1 hb1 H d hd
              have hd' : (some 39 : Option Tmp) = some d := hd
              injection hd' with hd'
              subst hd'
              refine ⟨fun _ => ?_, fun hne => absurd (H.new 39 2 (by kernel_rfl)) hne⟩
              exact gives_field rfl (H.old 3 _ (by kernel_rfl) rfl) (fun W => pred_at1 W w.heap.size) ⟨rfl, Below.refl _ _⟩
            · intro ρ W1 hb1 H d hd
              have hd' : (some 39 : Option Tmp) = some d := hd
              injection hd' with hd'
              subst hd'
              refine ⟨fun _ => ?_, fun hne => absurd (H.new 39 2 (by kernel_rfl)) hne⟩
              exact gives_load rfl (H.new 41 4 (by kernel_rfl)) Tryd.underlying3 rfl ((hb1.cell HPR.out.lt).trans (HPR.out.cell 1)) ⟨rfl, Below.refl _ _⟩
            · intro ρ W1 hb1 H d hd
              have hd' : (some 39 : Option Tmp) = some d := hd
              injection hd' with hd'
              subst hd'
              refine ⟨fun _ => ?_, fun hne => absurd (H.new 39 2 (by kernel_rfl)) hne⟩
              exact gives_index_wide (k := cx) Tryd.underlying22 col_sizeH rfl (H.new 40 3 (by kernel_rfl)) (H.new 42 5 (by kernel_rfl)) (by omega) ⟨rfl, Below.refl _ _⟩
            · intro ρ W1 hb1 H d hd
              have hd' : (some 39 : Option Tmp) = some d := hd
              injection hd' with hd'
              subst hd'
              refine ⟨fun _ => ?_, fun hne => absurd (H.new 39 2 (by kernel_rfl)) hne⟩
              exact gives_field rfl (H.new 43 6 (by kernel_rfl)) (fun W => col_kindH W _) ⟨rfl, Below.refl _ _⟩
            · intro ρ W1 hb1 H d hd
              have hd' : (some 39 : Option Tmp) = some d := hd
              injection hd' with hd'
              subst hd'
              refine ⟨fun _ => ?_, fun hne => absurd (H.new 39 2 (by kernel_rfl)) hne⟩
              exact gives_load rfl (H.new 44 7 (by kernel_rfl)) Tryd.underlying3 rfl (HKD.out W1 (HBX.out.trans (hb1.mono HBX.out.size))) ⟨rfl, Below.refl _ _⟩
            · intro ρ W1 hb1 H d hd
              have hd' : (some 39 : Option Tmp) = some d := hd
              injection hd' with hd'
              subst hd'
              refine ⟨fun _ => ?_, fun hne => absurd (H.new 39 2 (by kernel_rfl)) hne⟩
              exact gives_load_wide (cs := kcells ⟨false, xn, xs⟩) rfl (H.old 7 _ (by kernel_rfl) rfl) Tryd.underlying41 rfl cv_sizeH (row_atH (HXR.out.below hb1 HXR.out.lt) 0 (by intro q hq; rcases (by omega : q = 0 ∨ q = 1 ∨ q = 2) with rfl | rfl | rfl <;> rfl)) ⟨rfl, Below.refl _ _⟩
            · intro ρ W1 hb1 H d hd
              have hd' : (some 39 : Option Tmp) = some d := hd
              injection hd' with hd'
              subst hd'
              refine ⟨fun _ => ?_, fun hne => absurd (H.new 39 2 (by kernel_rfl)) hne⟩
              have e0 : ρ (.tmp 45) = .int .i64 kd := H.new 45 8 (by kernel_rfl)
              have e1 : ρ (.tmp 46) = cv ⟨false, xn, xs⟩ := H.new 46 9 (by kernel_rfl)
              refine gives_call rfl (fun _ _ => by kernel_rfl) (H.func _) (args := #[.int .i64 kd, cv ⟨false, xn, xs⟩]) (by simp [e0, e1]) ?_
              exact (HMY.out W1).mono fun e w' ⟨h1, h2⟩ => ⟨_, h1, rfl, h2⟩
            · intro ρ W1 hb1 H d hd
              have hd' : (some 39 : Option Tmp) = some d := hd
              injection hd' with hd'
              subst hd'
              refine ⟨fun _ => ?_, fun hne => absurd (H.new 39 2 (by kernel_rfl)) hne⟩
              exact gives_notH rfl (H.new 47 10 (by kernel_rfl)) ⟨rfl, Below.refl _ _⟩
            · intro ρ W1 hb1 H
              exact gives_pick_f rfl (H.new 39 2 (by kernel_rfl)) (H.new 48 11 (by kernel_rfl)) ⟨rfl, Below.refl _ _⟩
            · intro vs W1 hb1 hfs
              have f12 : vs 12 = .bool (!ok) := hfs 12 (by decide)
              clear hfs
              simp only [putAll, Nat.zero_add, Nat.reduceAdd]
              generalize vs 0 = z0
              generalize vs 1 = z1
              generalize vs 2 = z2
              generalize vs 3 = z3
              generalize vs 4 = z4
              generalize vs 5 = z5
              generalize vs 6 = z6
              generalize vs 7 = z7
              generalize vs 8 = z8
              generalize vs 9 = z9
              generalize vs 10 = z10
              generalize vs 11 = z11
              simp only [f12, Act.put, List.setIfInBounds_toArray, List.set_cons_succ, List.set_cons_zero]
              clear f12
              have HBE := Lib.hid (HBX.out.trans (hb1.mono HBX.out.size))
              have HBEW := Lib.hid (HBXW.out.trans (hb1.mono HBXW.out.size))
              clear hb1
              cases ok with
              | false =>
                have HF := Lib.hid (HNO.out rfl)
                go_wp2
                go_ret
                exact ⟨by rw [HF.out]; try rfl, HBE.out⟩
              | true =>
                go_wp2
                go_roundw
                case rel => exact ⟨k + 1, hkl, by go_num, HSN.out, HBEW.out⟩
                case measure => simp [intOf]; omega
        · obtain rfl : k = vm := by omega
          have hlti : ¬ (k : Int) < (k : Int) := by omega
          have HF := Lib.hid (HTL.out.trans (show (vals).all (hpsome kd) = true by
            have h := HALL.out
            rwa [List.take_of_length_le (by have := HNUM.out; omega)] at h))
          go_wp2
          go_ret
          exact ⟨by rw [HF.out]; try rfl, HBW.out⟩
    · have h46 : op = 4 ∨ op = 5 ∨ op = 6 := by omega
      clear h7 hop
      have HTL : Hid (hholdE ks ⟨op, (cx : Int), ⟨nb, nn, ns⟩, vals, ls, .slice vA vm vc, lv⟩ = [(⟨nb, nn, ns⟩ : CV)].all (hpsome kd)) := Lib.hid (by unfold hholdE; dsimp only; rw [if_pos h46, HGK.out]; simp)
      obtain ⟨W2, hW2⟩ : ∃ W2, W2 = (w.alloc (.cells #[.int .i64 op, .int .i64 (cx : Int), .bool nb, .int .i64 nn, .string ns, .slice vA vm vc, lv] 51)).alloc (.cells #[.bool nb, .int .i64 nn, .string ns] 41) := ⟨_, rfl⟩
      have HV : Hid (IsR kcells [⟨nb, nn, ns⟩] (.slice (some ⟨w.heap.size + 1, 0, none⟩) 1 1) W2) := Lib.hid (by
        rw [hW2, ← hz1]
        exact isR_row (by rw [List.flatMap_cons, List.flatMap_nil, List.append_nil]; exact box_rowH ⟨nb, nn, ns⟩ _) rfl (by omega))
      have HNUM : Hid ([(⟨nb, nn, ns⟩ : CV)].length = 1) := Lib.hid rfl
      have HWB : Hid (Below w.heap.size w W2) := Lib.hid (by rw [hW2]; exact HB1.out.alloc (by omega) _)
      have HPW : Hid (Row W2 w.heap.size 51 [.int .i64 op, .int .i64 (cx : Int), .bool nb, .int .i64 nn, .string ns, .slice vA vm vc, lv]) := Lib.hid (by rw [hW2]; exact RP.out.alloc _)
      have HSZ : Hid (∀ x ∈ [(⟨nb, nn, ns⟩ : CV)], x.s.size ≤ maxLen) := Lib.hid (by intro x hx; rw [List.mem_singleton.1 hx]; exact HAT.out.sv)
      clear hz1
      rcases h46 with rfl | rfl | rfl
      all_goals
        go_enter Tryd.func22, Tryd.ntmps22
        have HSTH : Hid (HHoldRel kd [(⟨nb, nn, ns⟩ : CV)] W2 (.int .i64 0) W2) := Lib.hid ⟨0, Nat.zero_le _, rfl, rfl, Below.refl _ _⟩
        go_wp2
        rw [← hW2]
        clear hW2 b0 b1 b2 b3 b4 b5 b6
        go_loopw [33] (HHoldRel kd [(⟨nb, nn, ns⟩ : CV)] W2) (fun i _ => 1 - (intOf i).toNat)
        case atStart => exact HSTH.out
        case round =>
          obtain ⟨k, hk, rfl, hall, hbw⟩ := hrel
          have hkn : k ≤ 1 := by have := HNUM.out; omega
          have HALL := Lib.hid hall
          have HBW := Lib.hid (below_then HWB.out hbw)
          have HVR := Lib.hid (HV.out.below hbw)
          have HPR0 := Lib.hid (HPW.out.below hbw HPW.out.lt)
          have HBWW := Lib.hid hbw
          clear hk hall hbw
          by_cases hlt : k < 1
          · have hkl : k < ([(⟨nb, nn, ns⟩ : CV)]).length := by have := HNUM.out; omega
            have hlti : (k : Int) < (1 : Int) := by omega
            obtain ⟨va, hVA, _, hcell⟩ := HVR.out.at (m := 3) (fun _ => rfl) (by omega) hkl
            injection hVA with hVA
            subst hVA
            obtain ⟨x, hx⟩ : ∃ x, x = ([(⟨nb, nn, ns⟩ : CV)])[k] := ⟨_, rfl⟩
            rw [← hx] at hcell
            obtain ⟨k0, k1, k2⟩ := cells3 hcell
            rw [add0H] at k0 k1 k2
            have hxm : x ∈ ([(⟨nb, nn, ns⟩ : CV)]) := by rw [hx]; exact List.getElem_mem hkl
            have HXS := Lib.hid (HSZ.out x hxm)
            have HSN := Lib.hid (show (([(⟨nb, nn, ns⟩ : CV)]).take (k + 1)).all (hpsome kd) = hpsome kd x by rw [List.take_succ_eq_append_getElem hkl, List.all_append, HALL.out, hx]; simp)
            have HNO := Lib.hid (fun h : hpsome kd x = false => HTL.out.trans (show ([(⟨nb, nn, ns⟩ : CV)]).all (hpsome kd) = false by
              rw [Bool.eq_false_iff]
              intro h2
              rw [List.all_eq_true.1 h2 x hxm] at h
              cases h))
            obtain ⟨xb, xn, xs⟩ := x
            dsimp only at k0 k1 k2
            have hbx : Below wr.heap.size wr (wr.alloc (.cells #[.bool xb, .int .i64 xn, .string xs] 41)) := (Below.refl _ _).alloc (Nat.le_refl _) _
            have HXR : Hid (Row (wr.alloc (.cells #[.bool xb, .int .i64 xn, .string xs] 41)) wr.heap.size 41 [.bool xb, .int .i64 xn, .string xs]) := Lib.hid (box_rowH ⟨xb, xn, xs⟩ wr)
            have HPR := Lib.hid (HPR0.out.below hbx HPR0.out.lt)
            have HBX := Lib.hid (below_then HBW.out hbx)
            have HBXW := Lib.hid (below_then HBWW.out hbx)
            clear hcell hx hxm hbx
            cases xb with
            | true =>
              have HF := Lib.hid (HNO.out (by unfold hpsome; simp))
              go_wp2_with fail
              refine wp_region_list [.is (.pointer (some ⟨wr.heap.size, 0, none⟩)), .is (.bool true), .is (.bool true), .any, .any, .any, .any, .any, .any, .any, .any, .any, .is (.bool true)] [some 37, some 38, some 39, some 40, some 41, some 42, some 43, some 44, some 45, some 46, some 47, some 48, some 49] (by kernel_rfl) (by kernel_rfl) (by kernel_rfl) rfl ⟨?_, ?_, ?_, ?_, ?_, ?_, ?_, ?_, ?_, ?_, ?_, ?_, ?_, trivial⟩ ?_
              · intro ρ W1 hb1 H
                exact gives_field rfl (H.old 7 _ (by kernel_rfl) rfl) (fun W => hval_at0 W wr.heap.size) ⟨rfl, Below.refl _ _⟩
              · intro ρ W1 hb1 H
                exact gives_load rfl (H.new 37 0 (by kernel_rfl)) Tryd.underlying4 rfl ((hb1.cell HXR.out.lt).trans (HXR.out.cell 0)) ⟨rfl, Below.refl _ _⟩
              · intro ρ W1 hb1 H
                exact gives_move rfl (H.new 38 1 (by kernel_rfl)) ⟨rfl, Below.refl _ _⟩
              · intro ρ W1 hb1 H d hd
                have hd' : (some 39 : Option Tmp) = some d := hd
                injection hd' with hd'
                subst hd'
                exact ⟨(fun hh => by cases hh.symm.trans (H.new 39 2 (by kernel_rfl))), fun _ => trivial⟩
              · intro ρ W1 hb1 H d hd
                have hd' : (some 39 : Option Tmp) = some d := hd
                injection hd' with hd'
                subst hd'
                exact ⟨(fun hh => by cases hh.symm.trans (H.new 39 2 (by kernel_rfl))), fun _ => trivial⟩
              · intro ρ W1 hb1 H d hd
                have hd' : (some 39 : Option Tmp) = some d := hd
                injection hd' with hd'
                subst hd'
                exact ⟨(fun hh => by cases hh.symm.trans (H.new 39 2 (by kernel_rfl))), fun _ => trivial⟩
              · intro ρ W1 hb1 H d hd
                have hd' : (some 39 : Option Tmp) = some d := hd
                injection hd' with hd'
                subst hd'
                exact ⟨(fun hh => by cases hh.symm.trans (H.new 39 2 (by kernel_rfl))), fun _ => trivial⟩
              · intro ρ W1 hb1 H d hd
                have hd' : (some 39 : Option Tmp) = some d := hd
                injection hd' with hd'
                subst hd'
                exact ⟨(fun hh => by cases hh.symm.trans (H.new 39 2 (by kernel_rfl))), fun _ => trivial⟩
              · intro ρ W1 hb1 H d hd
                have hd' : (some 39 : Option Tmp) = some d := hd
                injection hd' with hd'
                subst hd'
                exact ⟨(fun hh => by cases hh.symm.trans (H.new 39 2 (by kernel_rfl))), fun _ => trivial⟩
              · intro ρ W1 hb1 H d hd
                have hd' : (some 39 : Option Tmp) = some d := hd
                injection hd' with hd'
                subst hd'
                exact ⟨(fun hh => by cases hh.symm.trans (H.new 39 2 (by kernel_rfl))), fun _ => trivial⟩
              · intro ρ W1 hb1 H d hd
                have hd' : (some 39 : Option Tmp) = some d := hd
                injection hd' with hd'
                subst hd'
                exact ⟨(fun hh => by cases hh.symm.trans (H.new 39 2 (by kernel_rfl))), fun _ => trivial⟩
              · intro ρ W1 hb1 H d hd
                have hd' : (some 39 : Option Tmp) = some d := hd
                injection hd' with hd'
                subst hd'
                exact ⟨(fun hh => by cases hh.symm.trans (H.new 39 2 (by kernel_rfl))), fun _ => trivial⟩
              · intro ρ W1 hb1 H
                exact gives_pick_t rfl (H.new 39 2 (by kernel_rfl)) (H.const _) ⟨rfl, Below.refl _ _⟩
              · intro vs W1 hb1 hfs
                have f12 : vs 12 = .bool true := hfs 12 (by decide)
                clear hfs
                simp only [putAll, Nat.zero_add, Nat.reduceAdd]
                generalize vs 0 = z0
                generalize vs 1 = z1
                generalize vs 2 = z2
                generalize vs 3 = z3
                generalize vs 4 = z4
                generalize vs 5 = z5
                generalize vs 6 = z6
                generalize vs 7 = z7
                generalize vs 8 = z8
                generalize vs 9 = z9
                generalize vs 10 = z10
                generalize vs 11 = z11
                simp only [f12, Act.put, List.setIfInBounds_toArray, List.set_cons_succ, List.set_cons_zero]
                clear f12
                have HBE := Lib.hid (HBX.out.trans (hb1.mono HBX.out.size))
                clear hb1
                go_wp2
                go_ret
                exact ⟨by rw [HF.out]; try rfl, HBE.out⟩
            | false =>
              obtain ⟨ok, hok⟩ : ∃ ok, ok = kmay kd ⟨false, xn, xs⟩ := ⟨_, rfl⟩
              have HPS : Hid (hpsome kd ⟨false, xn, xs⟩ = ok) := Lib.hid (by rw [hok]; unfold hpsome; simp)
              have HMY := Lib.hid (fun W => kmay_free kd ⟨false, xn, xs⟩ W HXS.out)
              rw [← hok] at HMY
              rw [HPS.out] at HNO HSN
              clear hok
              go_wp2_with fail
              refine wp_region_list [.is (.pointer (some ⟨wr.heap.size, 0, none⟩)), .is (.bool false), .is (.bool false), .is (.slice (some cad) cn cc), .is (.pointer (some ⟨w.heap.size, 1, none⟩)), .is (.int .i64 (cx : Int)), .is (.pointer (some (cad.add (cx * 2)))), .is (.pointer (some ((cad.add (cx * 2)).add 1))), .is (.int .i64 kd), .is (cv ⟨false, xn, xs⟩), .is (.bool ok), .is (.bool (!ok)), .is (.bool (!ok))] [some 37, some 38, some 39, some 40, some 41, some 42, some 43, some 44, some 45, some 46, some 47, some 48, some 49] (by kernel_rfl) (by kernel_rfl) (by kernel_rfl) rfl ⟨?_, ?_, ?_, ?_, ?_, ?_, ?_, ?_, ?_, ?_, ?_, ?_, ?_, trivial⟩ ?_
              · intro ρ W1 hb1 H
                exact gives_field rfl (H.old 7 _ (by kernel_rfl) rfl) (fun W => hval_at0 W wr.heap.size) ⟨rfl, Below.refl _ _⟩
              · intro ρ W1 hb1 H
                exact gives_load rfl (H.new 37 0 (by kernel_rfl)) Tryd.underlying4 rfl ((hb1.cell HXR.out.lt).trans (HXR.out.cell 0)) ⟨rfl, Below.refl _ _⟩
              · intro ρ W1 hb1 H
                exact gives_move rfl (H.new 38 1 (by kernel_rfl)) ⟨rfl, Below.refl _ _⟩
              · intro ρ W1 hb1 H d hd
                have hd' : (some 39 : Option Tmp) = some d := hd
                injection hd' with hd'
                subst hd'
                refine ⟨fun _ => ?_, fun hne => absurd (H.new 39 2 (by kernel_rfl)) hne⟩
                exact gives_move rfl (H.old 0 _ (by kernel_rfl) rfl) ⟨rfl, Below.refl _ _⟩
              · intro ρ W1 hb1 H d hd
                have hd' : (some 39 : Option Tmp) = some d := hd
                injection hd' with hd'
                subst hd'
                refine ⟨fun _ => ?_, fun hne => absurd (H.new 39 2 (by kernel_rfl)) hne⟩
                exact gives_field rfl (H.old 3 _ (by kernel_rfl) rfl) (fun W => pred_at1 W w.heap.size) ⟨rfl, Below.refl _ _⟩
              · intro ρ W1 hb1 H d hd
                have hd' : (some 39 : Option Tmp) = some d := hd
                injection hd' with hd'
                subst hd'
                refine ⟨fun _ => ?_, fun hne => absurd (H.new 39 2 (by kernel_rfl)) hne⟩
                exact gives_load rfl (H.new 41 4 (by kernel_rfl)) Tryd.underlying3 rfl ((hb1.cell HPR.out.lt).trans (HPR.out.cell 1)) ⟨rfl, Below.refl _ _⟩
              · intro ρ W1 hb1 H d hd
                have hd' : (some 39 : Option Tmp) = some d := hd
                injection hd' with hd'
                subst hd'
                refine ⟨fun _ => ?_, fun hne => absurd (H.new 39 2 (by kernel_rfl)) hne⟩
                exact gives_index_wide (k := cx) Tryd.underlying22 col_sizeH rfl (H.new 40 3 (by kernel_rfl)) (H.new 42 5 (by kernel_rfl)) (by omega) ⟨rfl, Below.refl _ _⟩
              · intro ρ W1 hb1 H d hd
                have hd' : (some 39 : Option Tmp) = some d := hd
                injection hd' with hd'
                subst hd'
                refine ⟨fun _ => ?_, fun hne => absurd (H.new 39 2 (by kernel_rfl)) hne⟩
                exact gives_field rfl (H.new 43 6 (by kernel_rfl)) (fun W => col_kindH W _) ⟨rfl, Below.refl _ _⟩
              · intro ρ W1 hb1 H d hd
                have hd' : (some 39 : Option Tmp) = some d := hd
                injection hd' with hd'
                subst hd'
                refine ⟨fun _ => ?_, fun hne => absurd (H.new 39 2 (by kernel_rfl)) hne⟩
                exact gives_load rfl (H.new 44 7 (by kernel_rfl)) Tryd.underlying3 rfl (HKD.out W1 (HBX.out.trans (hb1.mono HBX.out.size))) ⟨rfl, Below.refl _ _⟩
              · intro ρ W1 hb1 H d hd
                have hd' : (some 39 : Option Tmp) = some d := hd
                injection hd' with hd'
                subst hd'
                refine ⟨fun _ => ?_, fun hne => absurd (H.new 39 2 (by kernel_rfl)) hne⟩
                exact gives_load_wide (cs := kcells ⟨false, xn, xs⟩) rfl (H.old 7 _ (by kernel_rfl) rfl) Tryd.underlying41 rfl cv_sizeH (row_atH (HXR.out.below hb1 HXR.out.lt) 0 (by intro q hq; rcases (by omega : q = 0 ∨ q = 1 ∨ q = 2) with rfl | rfl | rfl <;> rfl)) ⟨rfl, Below.refl _ _⟩
              · intro ρ W1 hb1 H d hd
                have hd' : (some 39 : Option Tmp) = some d := hd
                injection hd' with hd'
                subst hd'
                refine ⟨fun _ => ?_, fun hne => absurd (H.new 39 2 (by kernel_rfl)) hne⟩
                have e0 : ρ (.tmp 45) = .int .i64 kd := H.new 45 8 (by kernel_rfl)
                have e1 : ρ (.tmp 46) = cv ⟨false, xn, xs⟩ := H.new 46 9 (by kernel_rfl)
                refine gives_call rfl (fun _ _ => by kernel_rfl) (H.func _) (args := #[.int .i64 kd, cv ⟨false, xn, xs⟩]) (by simp [e0, e1]) ?_
                exact (HMY.out W1).mono fun e w' ⟨h1, h2⟩ => ⟨_, h1, rfl, h2⟩
              · intro ρ W1 hb1 H d hd
                have hd' : (some 39 : Option Tmp) = some d := hd
                injection hd' with hd'
                subst hd'
                refine ⟨fun _ => ?_, fun hne => absurd (H.new 39 2 (by kernel_rfl)) hne⟩
                exact gives_notH rfl (H.new 47 10 (by kernel_rfl)) ⟨rfl, Below.refl _ _⟩
              · intro ρ W1 hb1 H
                exact gives_pick_f rfl (H.new 39 2 (by kernel_rfl)) (H.new 48 11 (by kernel_rfl)) ⟨rfl, Below.refl _ _⟩
              · intro vs W1 hb1 hfs
                have f12 : vs 12 = .bool (!ok) := hfs 12 (by decide)
                clear hfs
                simp only [putAll, Nat.zero_add, Nat.reduceAdd]
                generalize vs 0 = z0
                generalize vs 1 = z1
                generalize vs 2 = z2
                generalize vs 3 = z3
                generalize vs 4 = z4
                generalize vs 5 = z5
                generalize vs 6 = z6
                generalize vs 7 = z7
                generalize vs 8 = z8
                generalize vs 9 = z9
                generalize vs 10 = z10
                generalize vs 11 = z11
                simp only [f12, Act.put, List.setIfInBounds_toArray, List.set_cons_succ, List.set_cons_zero]
                clear f12
                have HBE := Lib.hid (HBX.out.trans (hb1.mono HBX.out.size))
                have HBEW := Lib.hid (HBXW.out.trans (hb1.mono HBXW.out.size))
                clear hb1
                cases ok with
                | false =>
                  have HF := Lib.hid (HNO.out rfl)
                  go_wp2
                  go_ret
                  exact ⟨by rw [HF.out]; try rfl, HBE.out⟩
                | true =>
                  go_wp2
                  go_roundw
                  case rel => exact ⟨k + 1, hkl, by go_num, HSN.out, HBEW.out⟩
                  case measure => simp [intOf]; omega
          · obtain rfl : k = 1 := by omega
            have HF := Lib.hid (HTL.out.trans (show ([(⟨nb, nn, ns⟩ : CV)]).all (hpsome kd) = true by
              have h := HALL.out
              rwa [List.take_of_length_le (by have := HNUM.out; omega)] at h))
            go_wp2
            go_ret
            exact ⟨by rw [HF.out]; try rfl, HBW.out⟩
  · have HF : Hid (hholdE ks ⟨op, col, ⟨nb, nn, ns⟩, vals, ls, .slice vA vm vc, lv⟩ = true) := Lib.hid (by unfold hholdE; dsimp only; rw [if_neg (by omega), if_neg (by omega)])
    have d4 : (op == 4) = false := by simp; omega
    have d5 : (op == 5) = false := by simp; omega
    have d6 : (op == 6) = false := by simp; omega
    have d7 : (op == 7) = false := by simp; omega
    clear hz1 hcol hop
    go_enter Tryd.func22, Tryd.ntmps22
    go_wp2
    go_loopw [33] (fun i wr => i = Value.int .i64 0 ∧ wr = w.alloc (.cells #[.int .i64 op, .int .i64 col, .bool nb, .int .i64 nn, .string ns, .slice vA vm vc, lv] 51)) (fun _ _ => 0)
    case atStart => exact ⟨rfl, rfl⟩
    case round =>
      obtain ⟨rfl, rfl⟩ := hrel
      go_wp2
      go_ret
      exact ⟨by rw [HF.out]; try rfl, HB1.out⟩
end Go.Proofs.YtniniophoocalaaDoor

/- Predicates' own contracts: May, Eval, Outcomes, Match. Written by gen_hpred.py. -/













namespace Go.Proofs.YtniniophoocalaaDoor

open Go.RowKit

/-- What Eval's closure answers. -/
def hevF (r : List CV) (n : HN) (bs : List Int) : Int := if n.op = 1 then hxMin bs else if n.op = 2 then hxMax bs else if n.op = 3 then 2 - bs.headD 0 else hpleaf n r
theorem hpnm_named {n : HN} (h : n.op = 1 ∨ n.op = 2 ∨ n.op = 3) : hpnm n = n.ls := by unfold hpnm; rw [if_pos h]
theorem hbel_in {out : List Int} {n : HN} (ho : ∀ i, 0 ≤ out.getD i 0 ∧ out.getD i 0 ≤ 2) : ∀ x ∈ hbel 0 out n, 0 ≤ x ∧ x ≤ 2 := by
  intro x hx
  obtain ⟨q, _, rfl⟩ := List.mem_map.1 hx
  exact ho _
theorem hevF_eq {ks : List Int} {i : Nat} {n : HN} {r : List CV} {out : List Int} (h : HOk ks i n) (ho : ∀ i, 0 ≤ out.getD i 0 ∧ out.getD i 0 ≤ 2) : hevF r n (hbel 0 out n) = hpval n r out := by
  have hin := hbel_in (n := n) ho
  unfold hevF hpval
  by_cases h1 : n.op = 1
  · have hl := (h.named (by omega)).1
    rw [if_pos h1, if_pos h1, ← hxMin_of (by unfold hbel; rw [hpnm_named (.inl h1), List.length_map]; exact hl) fun x hx => (hin x hx).2]
    unfold hbel
    rw [hpnm_named (.inl h1), List.foldl_map]
  · rw [if_neg h1, if_neg h1]
    by_cases h2 : n.op = 2
    · have hl := (h.named (by omega)).1
      rw [if_pos h2, if_pos h2, ← hxMax_of (by unfold hbel; rw [hpnm_named (.inr (.inl h2)), List.length_map]; exact hl) fun x hx => (hin x hx).1]
      unfold hbel
      rw [hpnm_named (.inr (.inl h2)), List.foldl_map]
    · rw [if_neg h2, if_neg h2]
      by_cases h3 : n.op = 3
      · have hl := (h.named (by omega)).1
        rw [if_pos h3, if_pos h3]
        unfold hbel
        rw [hpnm_named (.inr (.inr h3))]
        cases hls : n.ls with
        | nil => rw [hls] at hl; simp at hl
        | cons q qs => rfl
      · rw [if_neg h3, if_neg h3]
theorem hevals_eq {ks : List Int} {r : List CV} : ∀ (l : List HN) (out : List Int), (∀ i, 0 ≤ out.getD i 0 ∧ out.getD i 0 ≤ 2) → (∀ i (h : i < l.length), HOk ks (out.length + i) l[i]) → heach 0 (hevF r) l out = hpvals r l out
  | [], _, _, _ => rfl
  | n :: l, out, ho, hk => by
    have h0 := hk 0 (by simp)
    have e : hevF r n (hbel 0 out n) = hpval n r out := hevF_eq h0 ho
    rw [heach, hpvals]
    rw [show hevF r n ((hpnm n).map fun q => out.getD q.toNat 0) = hpval n r out from e]
    refine hevals_eq (ks := ks) l _ (getD_snoc ho (hpval_in n r ho)) fun i h => ?_
    rw [List.length_append, List.length_singleton, show out.length + 1 + i = out.length + (i + 1) by omega]
    exact hk (i + 1) (by simpa using h)
/-- What Outcomes's closure answers. -/
def hofF (s : List GS) (n : HN) (bs : List T3) : T3 := if n.op = 1 then bs.tail.foldl hpboth (bs.headD hpno3) else if n.op = 2 then bs.tail.foldl hpone (bs.headD hpno3) else if n.op = 3 then (bs.headD hpno3).turn else hpknown n s
theorem hofF_eq {ks : List Int} {i : Nat} {n : HN} {s : List GS} {out : List T3} (h : HOk ks i n) : hofF s n (hbel hpno3 out n) = hpout1 n s out := by
  unfold hofF hpout1
  have key : n.op = 1 ∨ n.op = 2 ∨ n.op = 3 → ∃ q qs, n.ls = q :: qs ∧ hbel hpno3 out n = out.getD q.toNat hpno3 :: qs.map fun q => out.getD q.toNat hpno3 := by
    intro h1
    have hl := (h.named (by omega)).1
    unfold hbel
    rw [hpnm_named h1]
    cases hls : n.ls with
    | nil => rw [hls] at hl; simp at hl
    | cons q qs => exact ⟨q, qs, rfl, rfl⟩
  by_cases h1 : n.op = 1
  · obtain ⟨q, qs, e1, e2⟩ := key (.inl h1)
    rw [if_pos h1, if_pos h1, e1, e2, List.tail_cons, List.tail_cons, List.headD_cons, List.headD_cons, List.foldl_map]
  · rw [if_neg h1, if_neg h1]
    by_cases h2 : n.op = 2
    · obtain ⟨q, qs, e1, e2⟩ := key (.inr (.inl h2))
      rw [if_pos h2, if_pos h2, e1, e2, List.tail_cons, List.tail_cons, List.headD_cons, List.headD_cons, List.foldl_map]
    · rw [if_neg h2, if_neg h2]
      by_cases h3 : n.op = 3
      · obtain ⟨q, qs, e1, e2⟩ := key (.inr (.inr h3))
        rw [if_pos h3, if_pos h3, e1, e2, List.headD_cons, List.headD_cons]
      · rw [if_neg h3, if_neg h3]
theorem houts_eq {ks : List Int} {s : List GS} : ∀ (l : List HN) (out : List T3), (∀ i (h : i < l.length), HOk ks (out.length + i) l[i]) → heach hpno3 (hofF s) l out = hpouts s l out
  | [], _, _ => rfl
  | n :: l, out, hk => by
    have h0 := hk 0 (by simp)
    have e : hofF s n (hbel hpno3 out n) = hpout1 n s out := hofF_eq h0
    rw [heach, hpouts]
    rw [show hofF s n ((hpnm n).map fun q => out.getD q.toNat hpno3) = hpout1 n s out from e]
    refine houts_eq (ks := ks) l _ fun i h => ?_
    rw [List.length_append, List.length_singleton, show out.length + 1 + i = out.length + (i + 1) by omega]
    exact hk (i + 1) (by simpa using h)
/-- 40 numbers: what there is, and noughts. -/
def hfull (O : List Int) : List Int := O ++ List.replicate (40 - O.length) 0
theorem hfull_len {O : List Int} (h : O.length ≤ 40) : (hfull O).length = 40 := by unfold hfull; simp; omega
theorem hfull_iv (O : List Int) : (hfull O).map iv = hpadI O := by unfold hfull hpadI; rw [List.map_append, List.map_replicate]; rfl
theorem hfull_six {O : List Int} (h : O.length ≤ 40) : decide (hxMax (hfull O) ≤ 6) = O.all fun x => decide (x ≤ 6) := by
  rw [Bool.eq_iff_iff, decide_eq_true_iff, hxMax_le (by rw [hfull_len h]; omega), List.all_eq_true]
  unfold hfull
  constructor
  · intro h1 x hx
    exact decide_eq_true (h1 x (List.mem_append_left _ hx))
  · intro h1 x hx
    rcases List.mem_append.1 hx with hx | hx
    · exact of_decide_eq_true (h1 x hx)
    · rw [(List.mem_replicate.1 hx).2]; omega
set_option maxHeartbeats 4000000 in
set_option maxRecDepth 100000 in
theorem hevcl_any (n : HN) (r : List CV) (bs : List Int) (bsv rv : Value) (b : Nat) (w : World) (hn : HAt n w) (hr : IsR kcells r rv w) (hb : Row w b 32 [rv]) (hbs : IsV iv bs bsv w) (hop : 1 ≤ n.op ∧ n.op ≤ 9) (h13 : n.op ≤ 3 → 1 ≤ bs.length) (hin : ∀ x ∈ bs, 0 ≤ x ∧ x ≤ 2) (hcol : 4 ≤ n.op → n.op ≠ 9 → 0 ≤ n.col ∧ n.col < (r.length : Int)) :
    Calls Tryd.prog 29 #[hpv n, bsv, .pointer (some ⟨b, 0, none⟩)] w fun e w' => e = .returned (.int .i64 (hevF r n bs)) ∧ Below w.heap.size w w' := by
  have HAL := Lib.hid (fun W (h : Below w.heap.size w W) (h4 : 4 ≤ n.op) => halone_any n r rv W (hn.below h) (hr.below h) (hcol h4) ⟨h4, hop.2⟩)
  have HMN := Lib.hid (fun W (h : Below w.heap.size w W) (h1 : n.op ≤ 3) => hxMin_any bs bsv W (hbs.below h) (h13 h1))
  have HMX := Lib.hid (fun W (h : Below w.heap.size w W) (h1 : n.op ≤ 3) => hxMax_any bs bsv W (hbs.below h) (h13 h1))
  have HBS := Lib.hid hbs
  have HBR := Lib.hid hb
  obtain ⟨op, col, ⟨nb, nn, ns⟩, vals, ls, vv, lv⟩ := n
  obtain ⟨vA, vm, vc, rfl⟩ := hn.vals.shape
  obtain ⟨lA, lm, lc, rfl⟩ := hn.ls.shape
  dsimp only at hop h13 hcol HAL HMN HMX
  obtain ⟨W1, hW1⟩ : ∃ W1, W1 = w.alloc (.cells #[.int .i64 op, .int .i64 col, .bool nb, .int .i64 nn, .string ns, .slice vA vm vc, .slice lA lm lc] 51) := ⟨_, rfl⟩
  have RB1 : Hid (Row W1 w.heap.size 51 [.int .i64 op, .int .i64 col, .bool nb, .int .i64 nn, .string ns, .slice vA vm vc, .slice lA lm lc]) := Lib.hid (by rw [hW1]; exact box_rowP op col nb nn ns _ _ w)
  have HB1 : Hid (Below w.heap.size w W1) := Lib.hid (by rw [hW1]; exact (Below.refl _ _).alloc (Nat.le_refl _) _)
  unfold hpv hpcells at *
  dsimp only at HAL ⊢
  clear hn hr hb hcol
  by_cases h1 : op = 1
  · subst h1
    have HE := Lib.hid (show hevF r ⟨1, col, ⟨nb, nn, ns⟩, vals, ls, .slice vA vm vc, .slice lA lm lc⟩ bs = hxMin bs from rfl)
    have HC := Lib.hid (HMN.out W1 HB1.out (by omega))
    have b0 := RB1.out.cell 0
    clear hop h13 hin hbs
    subst hW1
    go_enter Tryd.func29, Tryd.ntmps29
    go_wp2_with fail
    refine HC.out.mono ?_
    rintro e w2 ⟨rfl, rfl⟩
    go_wp2
    go_ret
    exact ⟨by rw [HE.out]; try rfl, HB1.out⟩
  have d1 : (op == 1) = false := by simpa using h1
  by_cases h2 : op = 2
  · subst h2
    have HE := Lib.hid (show hevF r ⟨2, col, ⟨nb, nn, ns⟩, vals, ls, .slice vA vm vc, .slice lA lm lc⟩ bs = hxMax bs from rfl)
    have HC := Lib.hid (HMX.out W1 HB1.out (by omega))
    have b0 := RB1.out.cell 0
    clear hop h13 hin hbs
    subst hW1
    go_enter Tryd.func29, Tryd.ntmps29
    go_wp2_with fail
    refine HC.out.mono ?_
    rintro e w2 ⟨rfl, rfl⟩
    go_wp2
    go_ret
    exact ⟨by rw [HE.out]; try rfl, HB1.out⟩
  have d2 : (op == 2) = false := by simpa using h2
  by_cases h3 : op = 3
  · subst h3
    have HE := Lib.hid (show hevF r ⟨3, col, ⟨nb, nn, ns⟩, vals, ls, .slice vA vm vc, .slice lA lm lc⟩ bs = 2 - bs.headD 0 from rfl)
    have hl := h13 (by omega)
    obtain ⟨bA, bn, bc, rfl⟩ := HBS.out.shape
    have hbn : 0 < bn := by have := HBS.out.parts.1; omega
    have hbni : (0 : Int) < (bn : Int) := by omega
    obtain ⟨ad, rfl, _, hc⟩ := (HBS.out.below HB1.out).at (k := 0) hl
    rw [show ad.add 0 = ad by unfold Addr.add; split <;> simp_all] at hc
    obtain ⟨x, hx⟩ : ∃ x, x = bs.headD 0 := ⟨_, rfl⟩
    have hx0 : bs[0] = x := by
      rw [hx]
      cases bs with
      | nil => simp at hl
      | cons y l => rfl
    have hxr := hin x (by rw [← hx0]; exact List.getElem_mem hl)
    rw [hx0] at hc
    have hc2 : W1.cell? ad = some (.int .i64 x) := hc
    rw [← hx] at HE
    have b0 := RB1.out.cell 0
    clear hop h13 hin hbs hc hx hx0
    subst hW1
    go_enter Tryd.func29, Tryd.ntmps29
    go_wp2
    go_ret
    exact ⟨by rw [HE.out]; exact ret_int (by omega), HB1.out⟩
  have d3 : (op == 3) = false := by simpa using h3
  have HE := Lib.hid (show hevF r ⟨op, col, ⟨nb, nn, ns⟩, vals, ls, .slice vA vm vc, .slice lA lm lc⟩ bs = hpleaf ⟨op, col, ⟨nb, nn, ns⟩, vals, ls, .slice vA vm vc, .slice lA lm lc⟩ r by unfold hevF; rw [if_neg h1, if_neg h2, if_neg h3])
  have HC := Lib.hid (HAL.out W1 HB1.out (by omega))
  have HB2 := Lib.hid (HBR.out.below HB1.out HBR.out.lt)
  have rb0 := HB2.out.cell 0
  have b0 := RB1.out.cell 0
  have b1 := RB1.out.cell 1
  have b2 := RB1.out.cell 2
  have b3 := RB1.out.cell 3
  have b4 := RB1.out.cell 4
  have b5 := RB1.out.cell 5
  have b6 := RB1.out.cell 6
  clear hop h13 hin hbs h1 h2 h3
  subst hW1
  go_enter Tryd.func29, Tryd.ntmps29
  go_wp2_with fail
  refine HC.out.mono ?_
  rintro e w2 ⟨rfl, hb2⟩
  have HBE := Lib.hid (below_then HB1.out hb2)
  clear hb2 b0 b1 b2 b3 b4 b5 b6 rb0
  go_wp2
  go_ret
  exact ⟨by rw [HE.out]; try rfl, HBE.out⟩
set_option maxHeartbeats 8000000 in
set_option maxRecDepth 100000 in
theorem hofcl_any (n : HN) (s : List GS) (bs : List T3) (bsv sv : Value) (b : Nat) (w : World) (hn : HAt n w) (hs : IsR gcells s sv w) (hb : Row w b 36 [sv]) (hbs : IsR t3c bs bsv w) (hop : 1 ≤ n.op ∧ n.op ≤ 9) (h13 : n.op ≤ 3 → 1 ≤ bs.length) (hcol : 4 ≤ n.op → n.op ≠ 9 → 0 ≤ n.col ∧ n.col < (s.length : Int)) (hcnt : ∀ x ∈ s, 0 ≤ x.count) :
    Calls Tryd.prog 37 #[hpv n, bsv, .pointer (some ⟨b, 0, none⟩)] w fun e w' => e = .returned (t3v (hofF s n bs)) ∧ Below w.heap.size w w' := by
  have HKN := Lib.hid (fun W (h : Below w.heap.size w W) (h4 : 4 ≤ n.op) => hknown_any n s sv W (hn.below h) (hs.below h) ⟨h4, hop.2⟩ (hcol h4) hcnt)
  have HBS := Lib.hid hbs
  have HBR := Lib.hid hb
  obtain ⟨op, col, ⟨nb, nn, ns⟩, vals, ls, vv, lv⟩ := n
  obtain ⟨vA, vm, vc, rfl⟩ := hn.vals.shape
  obtain ⟨lA, lm, lc, rfl⟩ := hn.ls.shape
  dsimp only at hop h13 hcol HKN
  obtain ⟨W2, hW2⟩ : ∃ W2, W2 = (w.alloc (.cells #[.int .i64 op, .int .i64 col, .bool nb, .int .i64 nn, .string ns, .slice vA vm vc, .slice lA lm lc] 51)).alloc (.cells #[.bool false, .bool false, .bool false] 44) := ⟨_, rfl⟩
  have hzA : (w.alloc (.cells #[.int .i64 op, .int .i64 col, .bool nb, .int .i64 nn, .string ns, .slice vA vm vc, .slice lA lm lc] 51)).heap.size = w.heap.size + 1 := by simp
  have RP : Hid (Row W2 w.heap.size 51 [.int .i64 op, .int .i64 col, .bool nb, .int .i64 nn, .string ns, .slice vA vm vc, .slice lA lm lc]) := Lib.hid (by rw [hW2]; exact (box_rowP op col nb nn ns _ _ w).alloc _)
  have RT : Hid (Row W2 (w.heap.size + 1) 44 [.bool false, .bool false, .bool false]) := Lib.hid (by rw [hW2, ← hzA]; exact heap_alloc_new _ _)
  have HB2 : Hid (Below w.heap.size w W2) := Lib.hid (by rw [hW2]; exact ((Below.refl _ _).alloc (Nat.le_refl _) _).alloc (by omega) _)
  unfold hpv hpcells at *
  dsimp only at HKN ⊢
  clear hn hs hb hcol hzA hbs hcnt
  have b0 := RP.out.cell 0
  by_cases h1 : op = 1
  · subst h1
    obtain ⟨x, xs, rfl⟩ : ∃ x xs, bs = x :: xs := by
      have := h13 (by omega)
      cases bs with
      | nil => simp at this
      | cons x xs => exact ⟨x, xs, rfl⟩
    have HC := Lib.hid (hjoinedAnd_any x xs bsv W2 (HBS.out.below HB2.out))
    obtain ⟨Z, hZ⟩ : ∃ Z, Z = xs.foldl hpboth x := ⟨_, rfl⟩
    rw [← hZ] at HC
    have HE : Hid (hofF s ⟨1, col, ⟨nb, nn, ns⟩, vals, ls, .slice vA vm vc, .slice lA lm lc⟩ (x :: xs) = Z) := Lib.hid (by rw [hZ]; rfl)
    clear hop h13 hZ
    subst hW2
    go_enter Tryd.func37, Tryd.ntmps37
    go_wp2_with fail
    refine HC.out.mono ?_
    rintro e w3 ⟨rfl, hb3⟩
    have HBX := Lib.hid (below_then HB2.out hb3)
    have RT3 := Lib.hid (RT.out.below hb3 RT.out.lt)
    clear hb3 b0
    unfold t3v
    go_wp2_with (refine wpList_storeW rfl _ _ _ rfl (w.heap.size + 1) 0 44 [.bool false, .bool false, .bool false] (t3c Z) (t3c Z) rfl rfl rfl RT3.out infoA_size (Nat.le_refl _) (t3_one _ _ _) w w.heap.size HBX.out (by omega) ?_)
    intro w5 hr5 hb5 _
    have HR5 : Hid (Row w5 (w.heap.size + 1) 44 [.bool Z.no, .bool Z.un, .bool Z.yes]) := Lib.hid (by simpa [t3c] using hr5)
    have HB5 := Lib.hid hb5
    clear hr5 hb5
    go_wp2
    refine bodyPost_ret (v := .agg #[.bool Z.no, .bool Z.un, .bool Z.yes]) (results_cell_row rfl _ _ (w.heap.size + 1) _ _ (0, 0) _ rfl HR5.out Tryd.underlying44 rfl (by kernel_rfl)) rfl ?_
    exact ⟨by rw [HE.out]; rfl, HB5.out⟩
  have d1 : (op == 1) = false := by simpa using h1
  by_cases h2 : op = 2
  · subst h2
    obtain ⟨x, xs, rfl⟩ : ∃ x xs, bs = x :: xs := by
      have := h13 (by omega)
      cases bs with
      | nil => simp at this
      | cons x xs => exact ⟨x, xs, rfl⟩
    have HC := Lib.hid (hjoinedOr_any x xs bsv W2 (HBS.out.below HB2.out))
    obtain ⟨Z, hZ⟩ : ∃ Z, Z = xs.foldl hpone x := ⟨_, rfl⟩
    rw [← hZ] at HC
    have HE : Hid (hofF s ⟨2, col, ⟨nb, nn, ns⟩, vals, ls, .slice vA vm vc, .slice lA lm lc⟩ (x :: xs) = Z) := Lib.hid (by rw [hZ]; rfl)
    clear hop h13 hZ
    subst hW2
    go_enter Tryd.func37, Tryd.ntmps37
    go_wp2_with fail
    refine HC.out.mono ?_
    rintro e w3 ⟨rfl, hb3⟩
    have HBX := Lib.hid (below_then HB2.out hb3)
    have RT3 := Lib.hid (RT.out.below hb3 RT.out.lt)
    clear hb3 b0
    unfold t3v
    go_wp2_with (refine wpList_storeW rfl _ _ _ rfl (w.heap.size + 1) 0 44 [.bool false, .bool false, .bool false] (t3c Z) (t3c Z) rfl rfl rfl RT3.out infoA_size (Nat.le_refl _) (t3_one _ _ _) w w.heap.size HBX.out (by omega) ?_)
    intro w5 hr5 hb5 _
    have HR5 : Hid (Row w5 (w.heap.size + 1) 44 [.bool Z.no, .bool Z.un, .bool Z.yes]) := Lib.hid (by simpa [t3c] using hr5)
    have HB5 := Lib.hid hb5
    clear hr5 hb5
    go_wp2
    refine bodyPost_ret (v := .agg #[.bool Z.no, .bool Z.un, .bool Z.yes]) (results_cell_row rfl _ _ (w.heap.size + 1) _ _ (0, 0) _ rfl HR5.out Tryd.underlying44 rfl (by kernel_rfl)) rfl ?_
    exact ⟨by rw [HE.out]; rfl, HB5.out⟩
  have d2 : (op == 2) = false := by simpa using h2
  by_cases h3 : op = 3
  · subst h3
    obtain ⟨x, xs, rfl⟩ : ∃ x xs, bs = x :: xs := by
      have := h13 (by omega)
      cases bs with
      | nil => simp at this
      | cons x xs => exact ⟨x, xs, rfl⟩
    have HE : Hid (hofF s ⟨3, col, ⟨nb, nn, ns⟩, vals, ls, .slice vA vm vc, .slice lA lm lc⟩ (x :: xs) = x.turn) := Lib.hid rfl
    obtain ⟨bA, bn, bc, rfl⟩ := HBS.out.shape
    have hbn : 0 < bn := by have := HBS.out.parts.1; simp at this; omega
    have hbni : (0 : Int) < (bn : Int) := by omega
    obtain ⟨ad, rfl, _, hcell⟩ := (HBS.out.below HB2.out).at (m := 3) (fun _ => rfl) (by omega) (k := 0) (by simp)
    rw [show ((x :: xs)[0]'(by simp)) = x from rfl] at hcell
    obtain ⟨k0, k1, k2⟩ := cells3T hcell
    rw [Nat.zero_mul, show ad.add 0 = ad by unfold Addr.add; split <;> simp_all] at k0 k1 k2
    obtain ⟨x0, x1, x2⟩ := x
    dsimp only at k0 k1 k2
    clear hop h13 hcell
    go_enter Tryd.func37, Tryd.ntmps37
    go_wp2_with fail
    rw [← hW2]
    clear hW2
    go_still_tail 13, (by kernel_rfl)
    change wpList _ _ _ _ _ W2.drew
    refine wpList_storeW rfl _ _ _ rfl (w.heap.size + 1) 0 44 [.bool false, .bool false, .bool false] (t3c ⟨x2, x1, x0⟩) (t3c ⟨x2, x1, x0⟩) rfl rfl rfl (Row.drew RT.out) infoA_size (Nat.le_refl _) (t3_one _ _ _) w w.heap.size (HB2.out.trans (show Below w.heap.size W2 W2.drew from ⟨rfl, rfl, rfl, Nat.le_refl _, fun _ _ => rfl⟩)) (by omega) ?_
    intro w5 hr5 hb5 _
    have HR5 : Hid (Row w5 (w.heap.size + 1) 44 [.bool x2, .bool x1, .bool x0]) := Lib.hid (by simpa [t3c] using hr5)
    have HB5 := Lib.hid hb5
    clear hr5 hb5
    go_wp2
    refine bodyPost_ret (v := .agg #[.bool x2, .bool x1, .bool x0]) (results_cell_row rfl _ _ (w.heap.size + 1) _ _ (0, 0) _ rfl HR5.out Tryd.underlying44 rfl (by kernel_rfl)) rfl ?_
    exact ⟨by rw [HE.out]; rfl, HB5.out⟩
  have d3 : (op == 3) = false := by simpa using h3
  have HE := Lib.hid (show hofF s ⟨op, col, ⟨nb, nn, ns⟩, vals, ls, .slice vA vm vc, .slice lA lm lc⟩ bs = hpknown ⟨op, col, ⟨nb, nn, ns⟩, vals, ls, .slice vA vm vc, .slice lA lm lc⟩ s by unfold hofF; rw [if_neg h1, if_neg h2, if_neg h3])
  obtain ⟨Z, hZ⟩ : ∃ Z, Z = hpknown ⟨op, col, ⟨nb, nn, ns⟩, vals, ls, .slice vA vm vc, .slice lA lm lc⟩ s := ⟨_, rfl⟩
  have HC := Lib.hid (HKN.out W2 HB2.out (by omega))
  rw [← hZ] at HC HE
  have HBR2 := Lib.hid (HBR.out.below HB2.out HBR.out.lt)
  have rb0 := HBR2.out.cell 0
  have b1 := RP.out.cell 1
  have b2 := RP.out.cell 2
  have b3 := RP.out.cell 3
  have b4 := RP.out.cell 4
  have b5 := RP.out.cell 5
  have b6 := RP.out.cell 6
  clear hop h13 h1 h2 h3 hZ
  subst hW2
  go_enter Tryd.func37, Tryd.ntmps37
  go_wp2_with fail
  refine HC.out.mono ?_
  rintro e w3 ⟨rfl, hb3⟩
  have HBX := Lib.hid (below_then HB2.out hb3)
  have RT3 := Lib.hid (RT.out.below hb3 RT.out.lt)
  clear hb3 b0 b1 b2 b3 b4 b5 b6 rb0
  unfold t3v
  go_wp2_with (refine wpList_storeW rfl _ _ _ rfl (w.heap.size + 1) 0 44 [.bool false, .bool false, .bool false] (t3c Z) (t3c Z) rfl rfl rfl RT3.out infoA_size (Nat.le_refl _) (t3_one _ _ _) w w.heap.size HBX.out (by omega) ?_)
  intro w5 hr5 hb5 _
  have HR5 : Hid (Row w5 (w.heap.size + 1) 44 [.bool Z.no, .bool Z.un, .bool Z.yes]) := Lib.hid (by simpa [t3c] using hr5)
  have HB5 := Lib.hid hb5
  clear hr5 hb5
  go_wp2
  refine bodyPost_ret (v := .agg #[.bool Z.no, .bool Z.un, .bool Z.yes]) (results_cell_row rfl _ _ (w.heap.size + 1) _ _ (0, 0) _ rfl HR5.out Tryd.underlying44 rfl (by kernel_rfl)) rfl ?_
  exact ⟨by rw [HE.out]; rfl, HB5.out⟩
end Go.Proofs.YtniniophoocalaaDoor

/- Predicates' own contracts: May, Eval, Outcomes, Match, as the laws ask them. Written by gen_hpred.py. -/



namespace Go.Proofs.YtniniophoocalaaDoor

open Go.RowKit

set_option maxHeartbeats 4000000 in
set_option maxRecDepth 100000 in
theorem hpeval_own (ks : List Int) (l : List HN) (r : List CV) (lvv rv : Value) (w : World) (hl : IsPreds l lvv w) (hr : HRow r rv w) (hok : ∀ i (h : i < l.length), HOk ks i l[i]) (h1 : 1 ≤ l.length) (h40 : l.length ≤ 40) (hrl : r.length = ks.length) :
    Calls Tryd.prog 14 #[lvv, rv] w fun e w' => e = .returned (.int .i64 (hpevalE l r)) ∧ Below w.heap.size w w' := by
  obtain ⟨A, n, c, rfl⟩ := hr.row.shape
  have hn : r.length = n := hr.row.parts.1
  obtain ⟨lA, ln, lc, rfl⟩ := hl.1.shape
  have hln : l.length = ln := hl.1.parts.1
  obtain ⟨W1, hW1⟩ : ∃ W1, W1 = w.alloc (.cells #[.slice A n c] 32) := ⟨_, rfl⟩
  have RB : Row W1 w.heap.size 32 [.slice A n c] := by rw [hW1]; exact heap_alloc_new w _
  have hb1 : Below w.heap.size w W1 := by rw [hW1]; exact (Below.refl _ _).alloc (Nat.le_refl _) _
  have HF := Lib.hid (hfits_any l (.slice lA ln lc) n W1 (hl.below hb1))
  rw [hok_fits hok h1 h40 (by omega)] at HF
  have hpre : ∀ j, ∀ i, 0 ≤ (hpvals r (l.take j) []).getD i 0 ∧ (hpvals r (l.take j) []).getD i 0 ≤ 2 := fun j => hpvals_in r _ [] (by intro i; simp)
  have heq : ∀ j, heach 0 (hevF r) (l.take j) [] = hpvals r (l.take j) [] := fun j => hevals_eq (ks := ks) (l.take j) [] (by intro i; simp) fun i h => by
    rw [List.length_nil, Nat.zero_add, List.getElem_take]
    exact hok i (by rw [List.length_take] at h; omega)
  have HEA := Lib.hid (fun W (h : Below W1.heap.size W1 W) => heachE_any (hevF r) l (.slice lA ln lc) w.heap.size W (hl.below (below_then hb1 h)) h40 (fun j hj => hok_nm (hok j hj)) (fun j hj bsv W' hW' hbs =>
    hevcl_any l[j] r _ bsv (.slice A n c) w.heap.size W' ((hl.2 l[j] (List.getElem_mem hj)).below (below_then (below_then hb1 h) hW')) (hr.row.below (below_then (below_then hb1 h) hW')) ((RB.below h RB.lt).below hW' (RB.below h RB.lt).lt) hbs
      (hok j hj).ops (fun h3 => by have := ((hok j hj).named h3).1; unfold hbel; rw [List.length_map, hpnm_named (by have := (hok j hj).ops; omega)]; exact this) (hbel_in (by rw [heq j]; exact hpre j))
      (fun h4 h9 => by have := (hok j hj).column h4 h9; omega)))
  obtain ⟨O, hO⟩ : ∃ O, O = heach 0 (hevF r) l [] := ⟨_, rfl⟩
  rw [← hO] at HEA
  have hol : O.length = ln := by rw [hO, heach_len, hln]; simp
  obtain ⟨m, hm⟩ : ∃ m, ln = m + 1 := ⟨ln - 1, by omega⟩
  subst hm
  obtain ⟨x, hx⟩ : ∃ x, x = O.getD m 0 := ⟨_, rfl⟩
  have HE : Hid (hpevalE l r = x) := Lib.hid (by
    unfold hpevalE
    have h := heq l.length
    rw [List.take_length, ← hO] at h
    rw [← h, getLastD_getD, hx, hol]
    rfl)
  have HOL := Lib.hid hol
  have HX := Lib.hid hx
  have HB1 := Lib.hid hb1
  have HRB := Lib.hid RB
  have hlen : (hpadI O).length = 40 := hpadI_len (by omega)
  have e1 : IntKind.i64.wrap (((m + 1 : Nat) : Int) - 1) = (m : Int) := by rw [IntKind.wrap_i64]; omega
  have e2 : (m : Int) < 40 := by omega
  have r0 := RB.cell 0
  clear hl hr hok h1 h40 hrl hn hln RB hb1 hpre heq hO hol hx
  subst hW1
  go_enter Tryd.func14, Tryd.ntmps14
  go_wp2_with fail
  refine HF.out.mono ?_
  rintro e w2 ⟨rfl, hb2⟩
  have HEA2 := Lib.hid (HEA.out w2 hb2)
  have HB2 := Lib.hid (below_then HB1.out hb2)
  clear hb2 r0
  go_wp2_with fail
  refine HEA2.out.mono ?_
  rintro e w3 ⟨rfl, hb3⟩
  have HB3 := Lib.hid (below_then HB2.out hb3)
  clear hb3
  go_wp2_with (refine wpList_allocG arrI rfl rfl ?_)
  intro w4 hr4 hb4
  obtain ⟨g, hg⟩ : ∃ g, g = w3.heap.size := ⟨_, rfl⟩
  rw [← hg] at hr4 ⊢
  have hbb := below_then HB3.out hb4
  have hgw : w.heap.size ≤ g := by rw [hg]; exact HB3.out.size
  clear hb4 hg
  go_wp2_with (refine wpList_storeWholeG arrI rfl _ _ rfl g _ (zeroRow 40 (.int .i64 0)) (hpadI O) rfl rfl hr4 hlen (zeroRow_len _ _) (hpadI_one _) w w.heap.size hbb hgw ?_)
  intro w5 hr5 hb5 _
  have HB5 := Lib.hid hb5
  have c5 : w5.cell? ⟨g, m, none⟩ = some (.int .i64 x) := by rw [hr5.cell, hpadI_at (by have := HOL.out; omega), HX.out]
  clear hr5 hb5 hr4 hbb
  go_wp2
  go_ret
  exact ⟨by rw [HE.out]; try rfl, HB5.out⟩
set_option maxHeartbeats 4000000 in
set_option maxRecDepth 100000 in
theorem hpouts_own (ks : List Int) (l : List HN) (s : List GS) (lvv sv : Value) (w : World) (hl : IsPreds l lvv w) (hs : IsR gcells s sv w) (hcnt : ∀ x ∈ s, 0 ≤ x.count) (hok : ∀ i (h : i < l.length), HOk ks i l[i]) (h1 : 1 ≤ l.length) (h40 : l.length ≤ 40) (hsl : ks.length ≤ s.length) :
    Calls Tryd.prog 18 #[lvv, sv] w fun e w' => e = .returned (t3v (hpoutE l s)) ∧ Below w.heap.size w w' := by
  obtain ⟨A, n, c, rfl⟩ := hs.shape
  have hn : s.length = n := hs.parts.1
  obtain ⟨lA, ln, lc, rfl⟩ := hl.1.shape
  have hln : l.length = ln := hl.1.parts.1
  obtain ⟨W1, hW1⟩ : ∃ W1, W1 = (w.alloc (.cells #[.slice A n c] 36)).alloc (.cells #[.bool false, .bool false, .bool false] 44) := ⟨_, rfl⟩
  have hz : (w.alloc (.cells #[.slice A n c] 36)).heap.size = w.heap.size + 1 := by simp
  have RB : Row W1 w.heap.size 36 [.slice A n c] := by rw [hW1]; exact (show Row (w.alloc (.cells #[.slice A n c] 36)) w.heap.size 36 [.slice A n c] from heap_alloc_new w _).alloc _
  have RT : Row W1 (w.heap.size + 1) 44 [.bool false, .bool false, .bool false] := by rw [hW1, ← hz]; exact heap_alloc_new _ _
  have hb1 : Below w.heap.size w W1 := by rw [hW1]; exact ((Below.refl _ _).alloc (Nat.le_refl _) _).alloc (by omega) _
  have HF := Lib.hid (hfits_any l (.slice lA ln lc) n W1 (hl.below hb1))
  rw [hok_fits hok h1 h40 (by omega)] at HF
  have heq : heach hpno3 (hofF s) l [] = hpouts s l [] := houts_eq (ks := ks) l [] fun i h => by
    rw [List.length_nil, Nat.zero_add]
    exact hok i h
  have HEA := Lib.hid (fun W (h : Below W1.heap.size W1 W) => heachO_any (hofF s) l (.slice lA ln lc) w.heap.size W (hl.below (below_then hb1 h)) h40 (fun j hj => hok_nm (hok j hj)) (fun j hj bsv W' hW' hbs =>
    hofcl_any l[j] s _ bsv (.slice A n c) w.heap.size W' ((hl.2 l[j] (List.getElem_mem hj)).below (below_then (below_then hb1 h) hW')) (hs.below (below_then (below_then hb1 h) hW')) ((RB.below h RB.lt).below hW' (RB.below h RB.lt).lt) hbs
      (hok j hj).ops (fun h3 => by have := ((hok j hj).named h3).1; unfold hbel; rw [List.length_map, hpnm_named (by have := (hok j hj).ops; omega)]; exact this)
      (fun h4 h9 => by have := (hok j hj).column h4 h9; omega) hcnt))
  obtain ⟨O, hO⟩ : ∃ O, O = heach hpno3 (hofF s) l [] := ⟨_, rfl⟩
  rw [← hO] at HEA
  have hol : O.length = ln := by rw [hO, heach_len, hln]; simp
  obtain ⟨m, hm⟩ : ∃ m, ln = m + 1 := ⟨ln - 1, by omega⟩
  subst hm
  obtain ⟨Z, hZ⟩ : ∃ Z, Z = O.getD m hpno3 := ⟨_, rfl⟩
  have HE : Hid (hpoutE l s = Z) := Lib.hid (by
    unfold hpoutE
    rw [← heq, ← hO, getLastD_getD, hZ, hol]
    rfl)
  have HOL := Lib.hid hol
  have HZ := Lib.hid hZ
  have HB1 := Lib.hid hb1
  have HRT := Lib.hid RT
  have hlen : (hpadT O).length = 120 := hpadT_len (by omega)
  have e1 : IntKind.i64.wrap (((m + 1 : Nat) : Int) - 1) = (m : Int) := by rw [IntKind.wrap_i64]; omega
  have e2 : (m : Int) < 40 := by omega
  have r0 := RB.cell 0
  clear hl hs hok h1 h40 hsl hn hln RB RT hb1 heq hO hol hZ hcnt hz
  subst hW1
  go_enter Tryd.func18, Tryd.ntmps18
  go_wp2_with fail
  refine HF.out.mono ?_
  rintro e w2 ⟨rfl, hb2⟩
  have HEA2 := Lib.hid (HEA.out w2 hb2)
  have HB2 := Lib.hid (below_then HB1.out hb2)
  have HRT2 := Lib.hid (HRT.out.below hb2 HRT.out.lt)
  clear hb2 r0
  go_wp2_with fail
  refine HEA2.out.mono ?_
  rintro e w3 ⟨rfl, hb3⟩
  have HB3 := Lib.hid (below_then HB2.out hb3)
  have HRT3 := Lib.hid (HRT2.out.below hb3 HRT2.out.lt)
  clear hb3
  go_wp2_with (refine wpList_allocG arrT rfl rfl ?_)
  intro w4 hr4 hb4
  have HRT4 := Lib.hid (HRT3.out.below hb4 HRT3.out.lt)
  obtain ⟨g, hg⟩ : ∃ g, g = w3.heap.size := ⟨_, rfl⟩
  have hgt : w.heap.size + 1 < g := by rw [hg]; exact HRT3.out.lt
  rw [← hg] at hr4 ⊢
  have hbb := below_then HB3.out hb4
  have hgw : w.heap.size ≤ g := by omega
  clear hb4 hg
  go_wp2_with (refine wpList_storeWholeG arrT rfl _ _ rfl g _ (zeroRow 120 (.bool false)) (hpadT O) rfl rfl hr4 hlen (zeroRow_len _ _) (hpadT_one _) w w.heap.size hbb hgw ?_)
  intro w5 hr5 hb5 hk5
  have hrt5 := hk5 _ _ _ (by omega) HRT4.out
  have x0 : w5.cell? ⟨g, m * 3, none⟩ = some (.bool Z.no) := by rw [hr5.cell, show m * 3 = m * 3 + 0 from rfl, hpadT_at (by have := HOL.out; omega) (by omega), HZ.out]; rfl
  have x1 : w5.cell? ⟨g, m * 3 + 1, none⟩ = some (.bool Z.un) := by rw [hr5.cell, hpadT_at (by have := HOL.out; omega) (by omega), HZ.out]; rfl
  have x2 : w5.cell? ⟨g, m * 3 + 2, none⟩ = some (.bool Z.yes) := by rw [hr5.cell, hpadT_at (by have := HOL.out; omega) (by omega), HZ.out]; rfl
  clear hr5 hr4 hbb hk5
  go_wp2_with (refine wpList_storeW rfl _ _ _ rfl (w.heap.size + 1) 0 44 [.bool false, .bool false, .bool false] (t3c Z) (t3c Z) rfl rfl rfl hrt5 infoA_size (Nat.le_refl _) (t3_one _ _ _) w w.heap.size hb5 (by omega) ?_)
  intro w6 hr6 hb6 _
  have HR6 : Hid (Row w6 (w.heap.size + 1) 44 [.bool Z.no, .bool Z.un, .bool Z.yes]) := Lib.hid (by simpa [t3c] using hr6)
  have HB6 := Lib.hid hb6
  clear hr6 hb6 hb5 hrt5 x0 x1 x2
  go_wp2
  refine bodyPost_ret (v := .agg #[.bool Z.no, .bool Z.un, .bool Z.yes]) (results_cell_row rfl _ _ (w.heap.size + 1) _ _ (0, 0) _ rfl HR6.out Tryd.underlying44 rfl (by kernel_rfl)) rfl ?_
  exact ⟨by rw [HE.out]; rfl, HB6.out⟩
theorem hpmatch_own (ks : List Int) (l : List HN) (s : List GS) (lvv sv : Value) (w : World) (hl : IsPreds l lvv w) (hs : IsR gcells s sv w) (hcnt : ∀ x ∈ s, 0 ≤ x.count) (hok : ∀ i (h : i < l.length), HOk ks i l[i]) (h1 : 1 ≤ l.length) (h40 : l.length ≤ 40) (hsl : ks.length ≤ s.length) :
    Calls Tryd.prog 19 #[lvv, sv] w fun e w' => e = .returned (.bool (hpoutE l s).yes) ∧ Below w.heap.size w w' := by
  have HO := Lib.hid (hpouts_own ks l s lvv sv w hl hs hcnt hok h1 h40 hsl)
  obtain ⟨Z, hZ⟩ : ∃ Z, Z = hpoutE l s := ⟨_, rfl⟩
  rw [← hZ] at HO ⊢
  obtain ⟨z0, z1, z2⟩ := Z
  clear hl hs hcnt hok h1 h40 hsl hZ
  go_enter Tryd.func19, Tryd.ntmps19
  go_wp2_with fail
  refine HO.out.mono ?_
  rintro e w2 ⟨rfl, hb2⟩
  have HB := Lib.hid hb2
  have hI := (hidx3 z0 z1 z2 w2).2.2
  clear hb2
  unfold t3v
  dsimp only
  go_wp2
  go_ret
  exact ⟨rfl, HB.out⟩
def HMayLRel (ks : List Int) (l : List HN) (w : World) (i : Value) (wr : World) : Prop := ∃ j : Nat, j ≤ l.length ∧ i = .int .i64 (j : Int) ∧ (l.take j).all (hholdE ks) = true ∧ Below w.heap.size w wr
theorem hstand_nm {i k : Int} {n : HN} (h : hstand i k n = true) : ∀ q ∈ hpnm n, 0 ≤ q ∧ q < i := by
  unfold hstand at h
  rw [Bool.and_eq_true] at h
  exact fun q hq => of_decide_eq_true (List.all_eq_true.1 h.1 q hq)
theorem hstand_col {i k : Int} {n : HN} (h : hstand i k n = true) (h4 : 4 ≤ n.op) (h7 : n.op ≤ 7) : 0 ≤ n.col ∧ n.col < k := by
  unfold hstand at h
  rw [Bool.and_eq_true, if_neg (by omega), if_neg (by omega), if_pos (by omega)] at h
  exact of_decide_eq_true h.2
theorem hdeps_at {l : List HN} (hnm : ∀ j (h : j < l.length), ∀ q ∈ hpnm l[j], 0 ≤ q ∧ q < (j : Int)) : ∀ j, j ≤ l.length → ∀ i, 0 ≤ (heach 0 (fun _ bs => hdep bs) (l.take j) []).getD i 0 ∧ (heach 0 (fun _ bs => hdep bs) (l.take j) []).getD i 0 ≤ (j : Int)
  | 0, _, i => by simp [heach]
  | j + 1, h, i => by
    have hjl : j < l.length := by omega
    have ih := hdeps_at hnm j (by omega)
    rw [heach_next 0 (fun _ bs => hdep bs) hjl]
    have hlen : (heach 0 (fun _ bs => hdep bs) (l.take j) []).length = j := by rw [heach_len, List.length_take, Nat.min_eq_left (by omega)]; simp
    have hd := hdep_nat (bs := (hpnm l[j]).map fun q => (heach 0 (fun _ bs => hdep bs) (l.take j) []).getD q.toNat 0) (m := (j : Int)) (fun x hx => by
      obtain ⟨q, _, rfl⟩ := List.mem_map.1 hx
      exact ih _) (by omega)
    rcases Nat.lt_trichotomy i j with hi | hi | hi
    · rw [getDL (by rw [hlen]; exact hi)]
      have := ih i
      omega
    · subst hi
      rw [getDR (by rw [hlen]; exact Nat.le_refl _), hlen, Nat.sub_self]
      show 0 ≤ hdep _ ∧ hdep _ ≤ _
      omega
    · rw [getDN (by rw [List.length_append, hlen, List.length_singleton]; omega)]
      omega
set_option maxHeartbeats 8000000 in
set_option maxRecDepth 100000 in
theorem hpmay_own (cols : List CC) (l : List HN) (cv_ lv_ : Value) (w : World) (hc : IsR ccells cols cv_ w) (hl : IsPreds l lv_ w) :
    Calls Tryd.prog 10 #[cv_, lv_] w fun e w' => e = .returned (.bool (hpmayE (hpks cols) l)) ∧ Below w.heap.size w w' := by
  obtain ⟨A, n, c, rfl⟩ := hl.1.shape
  obtain ⟨cA, cn, cc, rfl⟩ := hc.shape
  have HL := Lib.hid hl
  have HC := Lib.hid hc
  have HN := Lib.hid hl.1.parts.1
  have HCN := Lib.hid hc.parts.1
  have hks : ((hpks cols).length : Int) = (cn : Int) := by have := HCN.out; unfold hpks; rw [List.length_map]; omega
  have HEQ := Lib.hid (hpmay_eq (hpks cols) l)
  rw [hks] at HEQ
  obtain ⟨ks, hk⟩ : ∃ ks, ks = hpks cols := ⟨_, rfl⟩
  have HHD := Lib.hid (fun x W (h : HAt x W) (hcol : 4 ≤ x.op → x.op ≤ 7 → 0 ≤ x.col ∧ x.col < (cols.length : Int)) (hb : Below w.heap.size w W) => hhold_any cols (.slice cA cn cc) x W (hc.below hb) h hcol)
  rw [← hk] at HEQ HHD ⊢
  have HFI := Lib.hid (hfits_any l (.slice A n c) cn w hl)
  obtain ⟨f, hf⟩ : ∃ f, f = hfitsE (cn : Int) l := ⟨_, rfl⟩
  rw [← hf] at HEQ HFI
  have HF := Lib.hid hf
  clear hl hc hks hk hf
  cases f with
  | false =>
    go_enter Tryd.func10, Tryd.ntmps10
    go_wp2_with fail
    refine HFI.out.mono ?_
    rintro e w1 ⟨rfl, hb1⟩
    have HB1 := Lib.hid hb1
    clear hb1
    go_wp2
    go_ret
    exact ⟨by rw [HEQ.out, Bool.false_and]; try rfl, HB1.out⟩
  | true =>
    have hfl := HF.out
    unfold hfitsE at hfl
    rw [eq_comm, Bool.and_eq_true, decide_eq_true_iff] at hfl
    have HSTD : Hid (∀ j (h : j < l.length), hstand (j : Int) (cn : Int) l[j] = true) := Lib.hid (fun j h => by have := hfitsL_at hfl.2 j h; rwa [Nat.zero_add] at this)
    have hn40 : n ≤ 40 := by have := HN.out; have := hfl.1; omega
    have hn1 : 1 ≤ n := by have := HN.out; have := hfl.1; omega
    have HDP := Lib.hid (fun W (h : Below w.heap.size w W) => heachD_any (fun _ bs => hdep bs) l (.slice A n c) W (HL.out.below h) (by rw [HN.out]; exact hn40) (fun j hj => hstand_nm (HSTD.out j hj)) (fun j hj bsv W' hW' hbs =>
      hdepth_any l[j] _ bsv W' hbs (fun x hx => by
        obtain ⟨q, _, rfl⟩ := List.mem_map.1 hx
        have := hdeps_at (fun j h => hstand_nm (HSTD.out j h)) j (by omega) q.toNat
        have := HN.out
        omega)))
    clear hfl
    go_enter Tryd.func10, Tryd.ntmps10
    go_wp2_with fail
    refine HFI.out.mono ?_
    rintro e w1 ⟨rfl, hb1⟩
    have HB1 := Lib.hid hb1
    have HST := Lib.hid (show HMayLRel ks l w (.int .i64 0) w1 from ⟨0, Nat.zero_le _, rfl, rfl, hb1⟩)
    clear hb1
    go_wp2
    go_loopw [15] (HMayLRel ks l w) (fun i _ => n - (intOf i).toNat)
    case atStart => exact HST.out
    case round =>
      obtain ⟨j, hj, rfl, hall, hbw⟩ := hrel
      have hjn : j ≤ n := by have := HN.out; omega
      have HALL := Lib.hid hall
      have HBW := Lib.hid hbw
      clear hj hall hbw
      by_cases hlt : j < n
      · have hjl : j < l.length := by have := HN.out; omega
        have hlti : (j : Int) < (n : Int) := by omega
        obtain ⟨ad, rfl, had, hcell⟩ := (HL.out.1.below HBW.out).at (m := 7) (fun _ => rfl) (by omega) hjl
        have HAT0 := Lib.hid ((HL.out.2 l[j] (List.getElem_mem hjl)).below HBW.out)
        have HST1 := Lib.hid (HSTD.out j hjl)
        obtain ⟨x, hx⟩ : ∃ x, x = l[j] := ⟨_, rfl⟩
        rw [← hx] at hcell HAT0 HST1
        obtain ⟨k0, k1, k2, k3, k4, k5, k6⟩ := cells7 hcell
        obtain ⟨t, ht⟩ : ∃ t, t = hholdE ks x := ⟨_, rfl⟩
        have HTT := Lib.hid ht
        have HX := Lib.hid hx
        have HCX := Lib.hid (fun W (h : Below wr.heap.size wr W) => HHD.out x W (HAT0.out.below h) (fun h4 h7 => by have := hstand_col HST1.out h4 h7; have := HCN.out; omega) (below_then HBW.out h))
        rw [← ht] at HCX
        obtain ⟨op, col, ⟨nb, nn, ns⟩, vals, ls, vv, lv⟩ := x
        dsimp only at k0 k1 k2 k3 k4 k5 k6
        have hb1 : Below wr.heap.size wr (wr.alloc (.cells #[.int .i64 op, .int .i64 col, .bool nb, .int .i64 nn, .string ns, vv, lv] 51)) := (Below.refl _ _).alloc (Nat.le_refl _) _
        have RB := Lib.hid (box_rowP op col nb nn ns vv lv wr)
        have HCC := Lib.hid (HCX.out _ hb1)
        have HB2 := Lib.hid (below_then HBW.out hb1)
        unfold hpv hpcells at HCC
        dsimp only at HCC
        have b0 := RB.out.cell 0
        have b1 := RB.out.cell 1
        have b2 := RB.out.cell 2
        have b3 := RB.out.cell 3
        have b4 := RB.out.cell 4
        have b5 := RB.out.cell 5
        have b6 := RB.out.cell 6
        obtain ⟨vA, vm, vc, rfl⟩ := HAT0.out.vals.shape
        obtain ⟨lA, lm, lc, rfl⟩ := HAT0.out.ls.shape
        clear hcell had hx ht hb1
        cases t with
        | false =>
          have HNO : Hid (hpmayE ks l = false) := Lib.hid (by
            rw [HEQ.out, Bool.true_and]
            have : l.all (hholdE ks) = false := by
              rw [Bool.eq_false_iff]
              intro h
              have h2 := List.all_eq_true.1 h l[j] (List.getElem_mem hjl)
              rw [← HX.out, ← HTT.out] at h2
              cases h2
            rw [this]
            rfl)
          go_wp2_with fail
          refine HCC.out.mono ?_
          rintro e w3 ⟨rfl, hb3⟩
          have HB3 := Lib.hid (below_then HB2.out hb3)
          clear hb3 b0 b1 b2 b3 b4 b5 b6
          go_wp2
          go_ret
          exact ⟨by rw [HNO.out]; try rfl, HB3.out⟩
        | true =>
          have HNX : Hid ((l.take (j + 1)).all (hholdE ks) = true) := Lib.hid (by rw [List.take_succ_eq_append_getElem hjl, List.all_append, HALL.out, ← HX.out]; simp [← HTT.out])
          go_wp2_with fail
          refine HCC.out.mono ?_
          rintro e w3 ⟨rfl, hb3⟩
          have HB3 := Lib.hid (below_then HB2.out hb3)
          clear hb3 b0 b1 b2 b3 b4 b5 b6
          go_wp2
          go_roundw
          case rel => exact ⟨j + 1, hjl, by go_num, HNX.out, HB3.out⟩
          case measure => simp [intOf]; omega
      · obtain rfl : j = n := by omega
        have hlti : ¬ (j : Int) < (j : Int) := by omega
        have hall : l.all (hholdE ks) = true := by
          have h := HALL.out
          rwa [List.take_of_length_le (by have := HN.out; omega)] at h
        obtain ⟨O, hO⟩ : ∃ O, O = heach 0 (fun _ bs => hdep bs) l [] := ⟨_, rfl⟩
        have HCD := Lib.hid (HDP.out wr HBW.out)
        rw [← hO] at HCD
        have hol : O.length = j := by rw [hO, heach_len, HN.out]; simp
        have HE : Hid (hpmayE ks l = decide (hxMax (hfull O) ≤ 6)) := Lib.hid (by
          rw [HEQ.out, hall, Bool.true_and, Bool.true_and, hfull_six (by omega), hO]
          rfl)
        have hlen : (hpadI O).length = 40 := hpadI_len (by omega)
        have HFL : Hid ((hfull O).length = 40) := Lib.hid (hfull_len (by omega))
        clear hall hO hol
        go_wp2_with fail
        refine HCD.out.mono ?_
        rintro e w3 ⟨rfl, hb3⟩
        have HB3 := Lib.hid (below_then HBW.out hb3)
        clear hb3
        go_wp2_with (refine wpList_allocG arrI rfl rfl ?_)
        intro w4 hr4 hb4
        obtain ⟨g, hg⟩ : ∃ g, g = w3.heap.size := ⟨_, rfl⟩
        rw [← hg] at hr4 ⊢
        have hbb := below_then HB3.out hb4
        have hgw : w.heap.size ≤ g := by rw [hg]; exact HB3.out.size
        clear hb4 hg
        go_wp2_with (refine wpList_storeWholeG arrI rfl _ _ rfl g _ (zeroRow 40 (.int .i64 0)) (hpadI O) rfl rfl hr4 hlen (zeroRow_len _ _) (hpadI_one _) w w.heap.size hbb hgw ?_)
        intro w5 hr5 hb5 _
        have HB5 := Lib.hid hb5
        have HV5 : Hid (IsV iv (hfull O) (.slice (some ⟨g, 0, none⟩) 40 40) w5) := Lib.hid (isV_row (by rw [hfull_iv]; exact hr5) HFL.out (by omega))
        have HMX := Lib.hid (hxMax_any (hfull O) _ w5 HV5.out (by rw [HFL.out]; omega))
        clear hr5 hb5 hr4 hbb
        go_wp2_with fail
        refine HMX.out.mono ?_
        rintro e w6 ⟨rfl, rfl⟩
        go_wp2
        go_ret
        exact ⟨by rw [HE.out]; try rfl, HB5.out⟩
theorem hpmay_any (cols : List CC) (l : List HN) (cv_ lv_ : Value) (w : World) (_hU : Tryd.U8 w) (hc : IsR ccells cols cv_ w) (hl : IsPreds l lv_ w) (_hci : ∀ x ∈ cols, -9223372036854775808 ≤ x.kind ∧ x.kind ≤ 9223372036854775807) (_hcb : cols.length ≤ 1000000) :
    Calls Tryd.prog 10 #[cv_, lv_] w fun e w' => e = .returned (.bool (hpmayE (hpks cols) l)) ∧ Below w.heap.size w w' := hpmay_own cols l cv_ lv_ w hc hl
theorem hpeval_any (ks : List Int) (l : List HN) (r : List CV) (lvv rv : Value) (w : World) (_hU : Tryd.U8 w) (hl : IsPreds l lvv w) (hr : HRow r rv w) (hok : ∀ i (h : i < l.length), HOk ks i l[i]) (h1 : 1 ≤ l.length) (h40 : l.length ≤ 40) (hrl : r.length = ks.length) (_hb : r.length ≤ 1000000) :
    Calls Tryd.prog 14 #[lvv, rv] w fun e w' => e = .returned (.int .i64 (hpevalE l r)) ∧ Below w.heap.size w w' := hpeval_own ks l r lvv rv w hl hr hok h1 h40 hrl
theorem hpouts_any (ks : List Int) (l : List HN) (s : List GS) (lvv sv : Value) (w : World) (_hU : Tryd.U8 w) (hl : IsPreds l lvv w) (hs : IsR gcells s sv w) (_hsi : ∀ x ∈ s, x.inInt ∧ x.min.s.size ≤ maxLen ∧ x.max.s.size ≤ maxLen) (hcnt : ∀ x ∈ s, 0 ≤ x.count) (hok : ∀ i (h : i < l.length), HOk ks i l[i]) (h1 : 1 ≤ l.length) (h40 : l.length ≤ 40) (hsl : ks.length ≤ s.length) (_hb : s.length ≤ 1000000) :
    Calls Tryd.prog 18 #[lvv, sv] w fun e w' => e = .returned (t3v (hpoutE l s)) ∧ Below w.heap.size w w' := hpouts_own ks l s lvv sv w hl hs hcnt hok h1 h40 hsl
theorem hpmatch_any (ks : List Int) (l : List HN) (s : List GS) (lvv sv : Value) (w : World) (_hU : Tryd.U8 w) (hl : IsPreds l lvv w) (hs : IsR gcells s sv w) (_hsi : ∀ x ∈ s, x.inInt ∧ x.min.s.size ≤ maxLen ∧ x.max.s.size ≤ maxLen) (hcnt : ∀ x ∈ s, 0 ≤ x.count) (hok : ∀ i (h : i < l.length), HOk ks i l[i]) (h1 : 1 ≤ l.length) (h40 : l.length ≤ 40) (hsl : ks.length ≤ s.length) (_hb : s.length ≤ 1000000) :
    Calls Tryd.prog 19 #[lvv, sv] w fun e w' => e = .returned (.bool (hpoutE l s).yes) ∧ Below w.heap.size w w' := hpmatch_own ks l s lvv sv w hl hs hcnt hok h1 h40 hsl
end Go.Proofs.YtniniophoocalaaDoor

/- What stage 18's laws over Stats stand on: rows of Stats of the call's own, a Stats that lies in a row, '==' of two arrays of three truths. -/



namespace Go.Proofs.YtniniophoocalaaDoor

open Go.RowKit Go.ChangeShapes Go.WideShapes Go.ChangeAt

theorem statsH_size : ∀ W, (sizeOf 43).run Tryd.prog W = .ok 10 W := Tryd.sizeOf43
theorem elemGS : ∃ b, b ≤ 100 ∧ ElemW Tryd.prog 36 43 b 10 (gsv ⟨0, false, ⟨false, 0, ⟨#[]⟩⟩, ⟨false, 0, ⟨#[]⟩⟩, 0, false⟩) := by
  have h : (Tryd.prog.info? 43).map (fun i => (i.zero, i.size, decide (i.bytes ≤ 100))) = some (some (gsv ⟨0, false, ⟨false, 0, ⟨#[]⟩⟩, ⟨false, 0, ⟨#[]⟩⟩, 0, false⟩), 10, true) := by kernel_rfl
  cases hi : Tryd.prog.info? 43 with
  | none => rw [hi] at h; cases h
  | some i =>
    rw [hi] at h
    injection h with h
    injection h with h1 h
    injection h with h2 h3
    exact ⟨i.bytes, of_decide_eq_true h3, Tryd.underlying36, rfl, by omega, i, hi, h1, h2, rfl⟩
theorem gcells_one (x : GS) : ∀ u ∈ gcells x, u.oneCell' = true := by
  obtain ⟨a, b, ⟨c, d, e⟩, ⟨f, g, h⟩, i, j⟩ := x
  simp [gcells, Value.oneCell']
theorem wideGS_at {l : List GS} {ad : Addr} {n c : Nat} {W : World} {x : GS} {k : Nat} (h : IsR gcells l (.slice (some ad) n c) W) (hk : k < l.length) (hx : x = l[k]) : ∀ q v, (gcells x)[q]? = some v → W.cell? ((ad.add (k * 10)).add q) = some v := by
  obtain ⟨ad', hA, _, hc⟩ := h.at (m := 10) (fun _ => rfl) (by omega) hk
  injection hA with hA
  subst hA
  intro q v hq
  have hq3 : q < 10 := (List.getElem?_eq_some_iff.1 hq).1
  rw [add_add, hc q hq3, ← hx]
  exact hq
theorem eqT3_run (t : T3) (W : World) : (binOp .eql 44 (t3v t) (t3v t)).run Tryd.prog W = .ok (.bool true) W := by
  obtain ⟨a, b, c⟩ := t
  cases a <;> cases b <;> cases c <;> kernel_rfl
theorem eqT3_guard (t : T3) (x y : Operand) (W : World) : (eqGuard .eql 44 x y (t3v t) (t3v t)).run Tryd.prog W = .ok () W := by
  obtain ⟨a, b, c⟩ := t
  cases a <;> cases b <;> cases c <;> kernel_rfl
theorem gives_eqT3 {o : Oper} {ρ : Operand → Value} {w : World} {R : Value → World → Prop} {x y : Operand} {t : T3} (ho : o.op = .binOp .eql 44 x y 44) (hx : ρ x = t3v t) (hy : ρ y = t3v t)
    (hR : R (.bool true) w) : Gives Tryd.prog o ρ w R := by
  refine gives_of (v := .bool true) (w' := w) ?_ hR
  simp [execOp, ho, hx, hy, eqT3_guard t x y w, eqT3_run t w]
end Go.Proofs.YtniniophoocalaaDoor

/- The head of layer 18's laws: shown, few. Written by gen_pred_laws.py. -/



namespace Go.Proofs.YtniniophoocalaaDoor

open Go.RowKit

theorem hpreds_take {l : List HN} {A : Option Addr} {n c k : Nat} {w : World} (h : IsPreds l (.slice A n c) w) (hk : k ≤ n) : IsPreds (l.take k) (.slice A k c) w := ⟨h.1.take (m := 7) (fun _ => rfl) hk, fun x hx => h.2 x (List.mem_of_mem_take hx)⟩
theorem few18_any (l : List HN) (v : Value) (w : World) (h : IsPreds l v w) : Calls Tryd.prog 9 #[v] w fun e w' => (∃ u, e = .returned u ∧ IsPreds (l.take 45) u w) ∧ w = w' := by
  obtain ⟨A, n, c, rfl⟩ := h.1.shape
  have HH := Lib.hid h
  obtain ⟨hn, _, hnc, hcm, _⟩ := h.1.parts
  have hci : (c : Int) ≤ 9223372036854775807 := by unfold maxLen at hcm; omega
  clear h hcm
  by_cases h : n ≤ 45
  · have h1 : ¬ (45 : Int) < (n : Int) := by omega
    have HR := Lib.hid (show IsPreds (l.take 45) (.slice A n c) w by rw [List.take_of_length_le (by omega)]; exact HH.out)
    clear hn
    go_enter Tryd.func9, Tryd.ntmps9
    go_wp2
    go_ret
    exact ⟨⟨_, rfl, HR.out⟩, rfl⟩
  · have h1 : (45 : Int) < (n : Int) := by omega
    have HR := Lib.hid (hpreds_take HH.out (show 45 ≤ n by omega))
    clear hn
    go_enter Tryd.func9, Tryd.ntmps9
    go_wp2
    go_ret
    exact ⟨⟨_, rfl, HR.out⟩, rfl⟩
def hn5 : HN := ⟨5, 0, ⟨false, 5, ⟨#[]⟩⟩, [], [], .slice none 0 0, .slice none 0 0⟩
def hn8 : HN := ⟨8, 0, ⟨false, 0, ⟨#[]⟩⟩, [], [], .slice none 0 0, .slice none 0 0⟩
def hn2 (g : Nat) : HN := ⟨2, 0, ⟨false, 0, ⟨#[]⟩⟩, [], [0, 1], .slice none 0 0, .slice (some ⟨g, 0, none⟩) 2 2⟩
theorem hat_nil {op n : Int} {w : World} (h1 : inInt op) (h2 : inInt n) : HAt ⟨op, 0, ⟨false, n, ⟨#[]⟩⟩, [], [], .slice none 0 0, .slice none 0 0⟩ w :=
  ⟨isR_nil _ _, isV_nil _ _, h1, by unfold inInt; dsimp only; omega, h2, by simp [ByteArray.size], by simp, by simp, by simp, by simp⟩
theorem hok5 : HOk [2] 0 hn5 := ⟨by decide, by decide, by decide, fun _ _ => by decide +kernel, by decide⟩
theorem hok8 : HOk [2] 1 hn8 := ⟨by decide, by decide, by decide, by decide, by decide⟩
theorem hok2 (g : Nat) : HOk [2] 2 (hn2 g) := ⟨by unfold hn2; dsimp only; omega, fun _ => ⟨by unfold hn2; simp, by unfold hn2; simp, by unfold hn2; simp⟩, by unfold hn2; simp, by unfold hn2; simp, by unfold hn2; simp⟩
theorem hev1 : hpevalE [hn5] [⟨false, 4, ⟨#[]⟩⟩] = 2 := by decide +kernel
theorem hev2 : hpevalE [hn5] [⟨true, 0, ⟨#[]⟩⟩] = 1 := by decide +kernel
theorem hev3 : hpevalE [hn5] [⟨false, 5, ⟨#[]⟩⟩] = 0 := by decide +kernel
theorem hev4 (g : Nat) : hpevalE [hn5, hn8, hn2 g] [⟨true, 0, ⟨#[]⟩⟩] = 2 := by
  have e : hpevalE [hn5, hn8, hn2 g] [⟨true, 0, ⟨#[]⟩⟩] = hpevalE [hn5, hn8, hn2 0] [⟨true, 0, ⟨#[]⟩⟩] := rfl
  rw [e]
  decide +kernel
theorem hrow_new (x : CV) (w : World) (h1 : x.inInt) (h2 : x.s.size ≤ maxLen) : HRow [x] (.slice (some ⟨w.heap.size, 0, none⟩) 1 1) (w.alloc (.cells #[.bool x.null, .int .i64 x.n, .string x.s] 41)) :=
  ⟨⟨_, _, rfl, by simp, Nat.le_refl _, by unfold maxLen; simp, cells_new w (kcells x) _⟩, by simpa using h1, by simpa using h2⟩
set_option maxHeartbeats 4000000 in
set_option maxRecDepth 100000 in
theorem shown18_any (w : World) (hU : Tryd.U8 w) : Calls Tryd.prog 8 #[] w fun e w' => e = .returned (.bool true) ∧ Below w.heap.size w w' := by
  obtain ⟨W1, hW1⟩ : ∃ W1, W1 = w.alloc (.cells #[.int .i64 5, .int .i64 0, .bool false, .int .i64 5, .string ⟨#[]⟩, .slice none 0 0, .slice none 0 0] 51) := ⟨_, rfl⟩
  have z1 : W1.heap.size = w.heap.size + 1 := by rw [hW1]; simp
  have r1 : Row W1 w.heap.size 51 [.int .i64 5, .int .i64 0, .bool false, .int .i64 5, .string ⟨#[]⟩, .slice none 0 0, .slice none 0 0] := by rw [hW1]; exact heap_alloc_new w _
  have b1 : Below w.heap.size w W1 := by rw [hW1]; exact (Below.refl _ _).alloc (Nat.le_refl _) _
  obtain ⟨W2, hW2⟩ : ∃ W2, W2 = W1.alloc (.cells #[.int .i64 5, .int .i64 0, .bool false, .int .i64 5, .string ⟨#[]⟩, .slice none 0 0, .slice none 0 0] 51) := ⟨_, rfl⟩
  have z2 : W2.heap.size = w.heap.size + 2 := by rw [hW2]; simp [z1]
  have r12 : Row W2 w.heap.size 51 [.int .i64 5, .int .i64 0, .bool false, .int .i64 5, .string ⟨#[]⟩, .slice none 0 0, .slice none 0 0] := by rw [hW2]; exact r1.alloc _
  have b2 : Below w.heap.size w W2 := by rw [hW2]; exact b1.alloc (by omega) _
  have p2 : IsPreds [hn5] (.slice (some ⟨w.heap.size + 1, 0, none⟩) 1 1) W2 := by
    rw [← z1, hW2]
    exact ⟨⟨_, _, rfl, by simp, Nat.le_refl _, by unfold maxLen; simp, cells_new W1 (hpcells hn5) _⟩, by intro x hx; rw [List.mem_singleton.1 hx]; exact hat_nil (by unfold inInt; omega) (by unfold inInt; omega)⟩
  obtain ⟨W3, hW3⟩ : ∃ W3, W3 = W2.alloc (.cells #[.int .i64 0, .int .i64 1] 3) := ⟨_, rfl⟩
  have z3 : W3.heap.size = w.heap.size + 3 := by rw [hW3]; simp [z2]
  have bb23 : Below W2.heap.size W2 W3 := by rw [hW3]; exact (Below.refl _ _).alloc (Nat.le_refl _) _
  have i3 : IsV iv [0, 1] (.slice (some ⟨w.heap.size + 2, 0, none⟩) 2 2) W3 := by rw [← z2, hW3]; exact isV_new iv W2 _ [0, 1] 2 rfl (by omega)
  obtain ⟨W4, hW4⟩ : ∃ W4, W4 = W3.alloc (.cells #[.int .i64 5, .int .i64 0, .bool false, .int .i64 5, .string ⟨#[]⟩, .slice none 0 0, .slice none 0 0, .int .i64 8, .int .i64 0, .bool false, .int .i64 0, .string ⟨#[]⟩, .slice none 0 0, .slice none 0 0, .int .i64 2, .int .i64 0, .bool false, .int .i64 0, .string ⟨#[]⟩, .slice none 0 0, .slice (some ⟨w.heap.size + 2, 0, none⟩) 2 2] 51) := ⟨_, rfl⟩
  have bb34 : Below W3.heap.size W3 W4 := by rw [hW4]; exact (Below.refl _ _).alloc (Nat.le_refl _) _
  have b4 : Below w.heap.size w W4 := (b2.trans (bb23.mono (by omega))).trans (bb34.mono (by omega))
  have p4 : IsPreds [hn5] (.slice (some ⟨w.heap.size + 1, 0, none⟩) 1 1) W4 := (p2.below bb23).below bb34
  have q4 : IsPreds [hn5, hn8, hn2 (w.heap.size + 2)] (.slice (some ⟨w.heap.size + 3, 0, none⟩) 3 3) W4 := by
    refine ⟨?_, ?_⟩
    · rw [← z3, hW4]
      exact ⟨_, _, rfl, by simp, Nat.le_refl _, by unfold maxLen; simp, cells_new W3 ([hn5, hn8, hn2 (w.heap.size + 2)].flatMap hpcells) _⟩
    · intro x hx
      simp only [List.mem_cons, List.not_mem_nil, or_false] at hx
      rcases hx with rfl | rfl | rfl
      · exact hat_nil (by unfold inInt; omega) (by unfold inInt; omega)
      · exact hat_nil (by unfold inInt; omega) (by unfold inInt; omega)
      · exact ⟨isR_nil _ _, i3.below bb34, by unfold hn2 inInt; dsimp only; omega, by unfold hn2 inInt; dsimp only; omega, by unfold hn2 CV.inInt; dsimp only; omega, by unfold hn2; simp [ByteArray.size], by unfold hn2; simp, by unfold hn2; simp, by unfold hn2 inInt; simp, by unfold hn2; simp⟩
  have HU := Lib.hid hU
  have HB4 := Lib.hid b4
  have HP4 := Lib.hid p4
  have HQ4 := Lib.hid q4
  have z4 : W4.heap.size = w.heap.size + 4 := by rw [hW4]; simp [z3]
  have one : ∀ (x : CV) (X : World), Below w.heap.size w X → IsPreds [hn5] (.slice (some ⟨w.heap.size + 1, 0, none⟩) 1 1) X → x.inInt → x.s.size ≤ maxLen → Calls Tryd.prog 14 #[.slice (some ⟨w.heap.size + 1, 0, none⟩) 1 1, .slice (some ⟨X.heap.size, 0, none⟩) 1 1] (X.alloc (.cells #[.bool x.null, .int .i64 x.n, .string x.s] 41)) fun e w' => e = .returned (.int .i64 (hpevalE [hn5] [x])) ∧ Below X.heap.size X w' := by
    intro x X hX hp h1 h2
    have hb : Below X.heap.size X (X.alloc (.cells #[.bool x.null, .int .i64 x.n, .string x.s] 41)) := (Below.refl _ _).alloc (Nat.le_refl _) _
    exact (hpeval_any [2] [hn5] [x] _ _ _ (Utf8Tabs_below hU (below_then hX hb)) (hp.below hb) (hrow_new x X h1 h2) (by intro i hi; obtain rfl : i = 0 := (by simpa using hi); exact hok5) (by simp) (by simp) (by simp) (by simp)).mono fun e w' ⟨h1, h2⟩ => ⟨h1, below_then hb h2⟩
  have two : ∀ (X : World), Below w.heap.size w X → IsPreds [hn5, hn8, hn2 (w.heap.size + 2)] (.slice (some ⟨w.heap.size + 3, 0, none⟩) 3 3) X → Calls Tryd.prog 14 #[.slice (some ⟨w.heap.size + 3, 0, none⟩) 3 3, .slice (some ⟨X.heap.size, 0, none⟩) 1 1] (X.alloc (.cells #[.bool true, .int .i64 0, .string ⟨#[]⟩] 41)) fun e w' => e = .returned (.int .i64 2) ∧ Below X.heap.size X w' := by
    intro X hX hp
    have hb : Below X.heap.size X (X.alloc (.cells #[.bool true, .int .i64 0, .string ⟨#[]⟩] 41)) := (Below.refl _ _).alloc (Nat.le_refl _) _
    rw [← hev4 (w.heap.size + 2)]
    exact (hpeval_any [2] [hn5, hn8, hn2 (w.heap.size + 2)] [⟨true, 0, ⟨#[]⟩⟩] _ _ _ (Utf8Tabs_below hU (below_then hX hb)) (hp.below hb) (hrow_new ⟨true, 0, ⟨#[]⟩⟩ X (by unfold CV.inInt; dsimp only; omega) (by simp [ByteArray.size])) (by
      intro i hi
      rcases (by simp at hi; omega : i = 0 ∨ i = 1 ∨ i = 2) with rfl | rfl | rfl
      · exact hok5
      · exact hok8
      · exact hok2 _) (by simp) (by simp) (by simp) (by simp)).mono fun e w' ⟨h1, h2⟩ => ⟨h1, below_then hb h2⟩
  have ONE := Lib.hid one
  have TWO := Lib.hid two
  have HC1 := Lib.hid (one ⟨false, 4, ⟨#[]⟩⟩ W4 b4 p4 (by unfold CV.inInt; dsimp only; omega) (by simp [ByteArray.size]))
  rw [hev1, z4] at HC1
  have a0 := r1.cell 0
  have a1 := r1.cell 1
  have a2 := r1.cell 2
  have a3 := r1.cell 3
  have a4 := r1.cell 4
  have a5 := r1.cell 5
  have a6 := r1.cell 6
  have c0 := r12.cell 0
  have c1 := r12.cell 1
  have c2 := r12.cell 2
  have c3 := r12.cell 3
  have c4 := r12.cell 4
  have c5 := r12.cell 5
  have c6 := r12.cell 6
  have HW4 := Lib.hid hW4
  have HZ4 := Lib.hid z4
  clear one two hU b1 b2 b4 p2 p4 q4 r1 r12 i3 bb23 bb34 z1 z2 z3 z4
  dsimp only at HC1
  subst hW4
  subst hW3
  subst hW2
  subst hW1
  go_enter Tryd.func8, Tryd.ntmps8
  go_wp2_with fail
  refine HC1.out.mono ?_
  rintro e w5 ⟨rfl, hb5⟩
  rw [← HZ4.out] at hb5
  have HB5 := Lib.hid (below_then HB4.out hb5)
  have HP5 := Lib.hid (HP4.out.below hb5)
  have HQ5 := Lib.hid (HQ4.out.below hb5)
  have HC2 := Lib.hid (ONE.out ⟨true, 0, ⟨#[]⟩⟩ w5 HB5.out HP5.out (by unfold CV.inInt; dsimp only; omega) (by simp [ByteArray.size]))
  rw [hev2] at HC2
  clear a0 a1 a2 a3 a4 a5 a6 c0 c1 c2 c3 c4 c5 c6 hb5
  go_wp2_with fail
  refine HC2.out.mono ?_
  rintro e w6 ⟨rfl, hb6⟩
  have HB6 := Lib.hid (below_then HB5.out hb6)
  have HP6 := Lib.hid (HP5.out.below hb6)
  have HQ6 := Lib.hid (HQ5.out.below hb6)
  have HC3 := Lib.hid (ONE.out ⟨false, 5, ⟨#[]⟩⟩ w6 HB6.out HP6.out (by unfold CV.inInt; dsimp only; omega) (by simp [ByteArray.size]))
  rw [hev3] at HC3
  clear hb6
  go_wp2_with fail
  refine HC3.out.mono ?_
  rintro e w7 ⟨rfl, hb7⟩
  have HB7 := Lib.hid (below_then HB6.out hb7)
  have HQ7 := Lib.hid (HQ6.out.below hb7)
  have HC4 := Lib.hid (TWO.out w7 HB7.out HQ7.out)
  clear hb7
  go_wp2_with fail
  refine HC4.out.mono ?_
  rintro e w8 ⟨rfl, hb8⟩
  have HB8 := Lib.hid (below_then HB7.out hb8)
  clear hb8
  go_wp2
  go_ret
  exact ⟨rfl, HB8.out⟩
end Go.Proofs.YtniniophoocalaaDoor

/- What the law PredTurned stands on: nodes put on top of a predicate (layer 18). Written by gen_pred_turned.py. -/



namespace Go.Proofs.YtniniophoocalaaDoor

open Go.RowKit Go.ChangeShapes Go.WideShapes Go.ChangeAt

/-- A node that names others; one that holds always. -/
def hpN (op : Int) (qs : List Int) (g : Nat) : HN := ⟨op, 0, ⟨false, 0, ⟨#[]⟩⟩, [], qs, .slice none 0 0, .slice (some ⟨g, 0, none⟩) qs.length qs.length⟩
def hpT : HN := ⟨9, 0, ⟨false, 0, ⟨#[]⟩⟩, [], [], .slice none 0 0, .slice none 0 0⟩
theorem elemHN : ∃ b, b ≤ 100 ∧ ElemW Tryd.prog 23 51 b 7 (hpv ⟨0, 0, ⟨false, 0, ⟨#[]⟩⟩, [], [], .slice none 0 0, .slice none 0 0⟩) := by
  have h : (Tryd.prog.info? 51).map (fun i => (i.zero, i.size, decide (i.bytes ≤ 100))) = some (some (hpv ⟨0, 0, ⟨false, 0, ⟨#[]⟩⟩, [], [], .slice none 0 0, .slice none 0 0⟩), 7, true) := by kernel_rfl
  cases hi : Tryd.prog.info? 51 with
  | none => rw [hi] at h; cases h
  | some i =>
    rw [hi] at h
    injection h with h
    injection h with h1 h
    injection h with h2 h3
    exact ⟨i.bytes, of_decide_eq_true h3, Tryd.underlying23, rfl, by omega, i, hi, h1, h2, rfl⟩
theorem hp_one {l : List HN} {v : Value} {w : World} (h : IsPreds l v w) : ∀ u ∈ l.flatMap hpcells, u.oneCell' = true := by
  intro u hu
  obtain ⟨n, hn, hu⟩ := List.mem_flatMap.1 hu
  have ha := h.2 n hn
  obtain ⟨A, m, c, e⟩ := ha.vals.shape
  obtain ⟨B, k, d, e2⟩ := ha.ls.shape
  rw [hpcells, e, e2] at hu
  simp only [List.mem_cons, List.not_mem_nil, or_false] at hu
  rcases hu with rfl | rfl | rfl | rfl | rfl | rfl | rfl <;> rfl
/-- append of a predicate's nodes to none of the call's own. -/
theorem wpList_copyP {P : Program} {W : World} {ops : Array Oper} {rest : List Oper} {o : Oper} {a : Act} {Q : Exit → Act → World → Prop} {t e : TypeId} {bytes : Nat} {z : Value} (E : ElemW P t e bytes 7 z)
    (hgd : o.guard = none) (s x : Operand) (ho : o.op = .call { callee := .builtin .append, args := #[s, x], argTypes := #[t, t] })
    (m : List HN) (A : Option Addr) (n c : Nat) (w : World) (hs : a.eval s = .slice (some ⟨w.heap.size, 0, none⟩) 0 0) (hx : a.eval x = .slice A n c) (hW : W = w.alloc (.cells #[] e))
    (hp : IsPreds m (.slice A n c) w) (hn : n ≤ 1000) (hby : bytes ≤ 100)
    (h : ∀ v' w', w'.ownsRow w.heap.size e 7 v' m.length (m.flatMap hpcells) → Below w.heap.size w w' → wpList P ops Q rest (a.put o.dst v') w') : wpList P ops Q (o :: rest) a W := by
  subst hW
  have hb : Below w.heap.size w (w.alloc (.cells #[] e)) := (Below.refl _ _).alloc (Nat.le_refl _) _
  obtain ⟨p1, p2, _, _, p5⟩ := (hp.1.below hb).parts
  refine wpList_joinW E hgd s x ho w.heap.size _ 0 [] A n c (m.flatMap hpcells) w hs hx p2 (by rw [flat_len (m := 7) (fun _ => rfl), p1]) p5 (hp_one hp) (ownW_made w e 7) hb (by simp) (by omega) hby ?_
  intro v' w' h1 h2 _ _
  refine h v' w' ?_ h2
  rw [p1]
  simpa using h1
/-- append of some nodes of the call's own. -/
theorem wpList_nodes {P : Program} {W : World} {ops : Array Oper} {rest : List Oper} {o : Oper} {a : Act} {Q : Exit → Act → World → Prop} {t e : TypeId} {bytes : Nat} {z : Value} (E : ElemW P t e bytes 7 z)
    (hgd : o.guard = none) (s x : Operand) (ho : o.op = .call { callee := .builtin .append, args := #[s, x], argTypes := #[t, t] })
    (v : Value) (m ns : List HN) (w1 X w0 : World) (g k c : Nat) (hgs : g = X.heap.size) (hs : a.eval s = v) (hx : a.eval x = .slice (some ⟨g, 0, none⟩) k c) (hk : ns.length = k) (hW : W = X.alloc (.cells (ns.flatMap hpcells).toArray e))
    (hown : w1.ownsRow w0.heap.size e 7 v m.length (m.flatMap hpcells)) (hb0 : Below w0.heap.size w0 w1) (hX : Below w1.heap.size w1 X) (hat1 : ∀ n ∈ m, HAt n w0)
    (hat2 : ∀ w', (∀ k, w1.heap.size ≤ k → k < X.heap.size → w'.heap[k]? = X.heap[k]?) → ∀ n ∈ ns, HAt n w') (hone : ∀ u ∈ ns.flatMap hpcells, u.oneCell' = true) (hm : m.length + k ≤ 1000000000) (hby : bytes ≤ 100)
    (h : ∀ v' w', IsPreds (m ++ ns) v' w' → Below w0.heap.size w0 w' → wpList P ops Q rest (a.put o.dst v') w') : wpList P ops Q (o :: rest) a W := by
  subst hW
  subst hgs
  subst hk
  have hbX := hX.size
  have hb1 := hb0.size
  have hownX : X.ownsRow w0.heap.size e 7 v m.length (m.flatMap hpcells) := own_below hown hX
  refine wpList_joinW E hgd s x ho w0.heap.size v m.length (m.flatMap hpcells) _ ns.length c (ns.flatMap hpcells) w0 hs hx (by simp) (by rw [flat_len (m := 7) (fun _ => rfl)]) (cells_new X _ e) hone (ownW_alloc hownX _) ((hb0.trans (hX.mono hb1)).alloc (by omega) _) (by simp; omega) hm hby ?_
  intro v' w' h1 h2 hg _
  refine h v' w' ⟨isR_own (m := 7) (fun _ => rfl) (by omega) (by rw [List.flatMap_append]; exact h1), fun n hn => ?_⟩ h2
  rcases List.mem_append.1 hn with hn | hn
  · exact (hat1 n hn).below h2
  · refine hat2 w' (fun k h3 h4 => ?_) n hn
    refine (hg.block k (by simp; omega) (fun he => ?_)).trans (Below.heap_alloc X _ k h4)
    have := (ownW_lt hown he.symm).2
    omega
theorem hat_N {op : Int} {qs : List Int} {g : Nat} {w : World} (hr : Row w g 3 (qs.map iv)) (hop : inInt op) (hq : ∀ q ∈ qs, inInt q) (hl : qs.length ≤ 1000000) : HAt (hpN op qs g) w :=
  ⟨isR_nil _ _, isV_row hr rfl hl, hop, by unfold hpN inInt; dsimp only; omega, by unfold hpN CV.inInt; dsimp only; omega, by unfold hpN; simp [ByteArray.size], by unfold hpN; simp, by unfold hpN; simp, hq, by show qs.length ≤ _; omega⟩
theorem hat_T (w : World) : HAt hpT w := hat_nil (by unfold inInt; omega) (by unfold inInt; omega)
theorem row_one {w X w' : World} {qs : List Int} (hX : X = w.alloc (.cells (qs.map iv).toArray 3)) (hf : ∀ k, w.heap.size ≤ k → k < X.heap.size → w'.heap[k]? = X.heap[k]?) : Row w' w.heap.size 3 (qs.map iv) := by
  subst hX
  exact (hf _ (Nat.le_refl _) (by simp)).trans (heap_alloc_new w _)
theorem row_two {w X w' : World} {qs ps : List Int} (hX : X = (w.alloc (.cells (qs.map iv).toArray 3)).alloc (.cells (ps.map iv).toArray 3)) (hf : ∀ k, w.heap.size ≤ k → k < X.heap.size → w'.heap[k]? = X.heap[k]?) :
    Row w' w.heap.size 3 (qs.map iv) ∧ Row w' (w.heap.size + 1) 3 (ps.map iv) := by
  subst hX
  have hz : (w.alloc (.cells (qs.map iv).toArray 3)).heap.size = w.heap.size + 1 := by simp
  refine ⟨(hf _ (Nat.le_refl _) (by simp; omega)).trans ((Below.heap_alloc _ _ _ (by simp)).trans (heap_alloc_new w _)), ?_⟩
  have h := heap_alloc_new (w.alloc (.cells (qs.map iv).toArray 3)) (.cells (ps.map iv).toArray 3)
  rw [hz] at h
  exact (hf _ (by omega) (by simp)).trans h
theorem hpN_one (op : Int) (qs : List Int) (g : Nat) : ∀ u ∈ hpcells (hpN op qs g), u.oneCell' = true := by
  intro u hu
  simp only [hpcells, hpN, List.mem_cons, List.not_mem_nil, or_false] at hu
  rcases hu with rfl | rfl | rfl | rfl | rfl | rfl | rfl <;> rfl
theorem hpT_one : ∀ u ∈ hpcells hpT, u.oneCell' = true := by
  intro u hu
  simp only [hpcells, hpT, List.mem_cons, List.not_mem_nil, or_false] at hu
  rcases hu with rfl | rfl | rfl | rfl | rfl | rfl | rfl <;> rfl
theorem hats_one {w X w' : World} {op : Int} {qs : List Int} (hX : X = w.alloc (.cells (qs.map iv).toArray 3)) (hf : ∀ k, w.heap.size ≤ k → k < X.heap.size → w'.heap[k]? = X.heap[k]?) (hop : inInt op) (hq : ∀ q ∈ qs, inInt q) (hl : qs.length ≤ 1000000) : ∀ n ∈ [hpN op qs w.heap.size], HAt n w' := by
  intro n hn
  obtain rfl := List.mem_singleton.1 hn
  exact hat_N (row_one hX hf) hop hq hl
theorem hats_yes {w X w' : World} {op : Int} {qs : List Int} (hX : X = w.alloc (.cells (qs.map iv).toArray 3)) (hf : ∀ k, w.heap.size ≤ k → k < X.heap.size → w'.heap[k]? = X.heap[k]?) (hop : inInt op) (hq : ∀ q ∈ qs, inInt q) (hl : qs.length ≤ 1000000) : ∀ n ∈ [hpT, hpN op qs w.heap.size], HAt n w' := by
  intro n hn
  simp only [List.mem_cons, List.not_mem_nil, or_false] at hn
  rcases hn with rfl | rfl
  · exact hat_T w'
  · exact hat_N (row_one hX hf) hop hq hl
theorem hats_two {w X w' : World} {op op' : Int} {qs ps : List Int} (hX : X = (w.alloc (.cells (qs.map iv).toArray 3)).alloc (.cells (ps.map iv).toArray 3)) (hf : ∀ k, w.heap.size ≤ k → k < X.heap.size → w'.heap[k]? = X.heap[k]?) (hop : inInt op) (hop' : inInt op') (hq : ∀ q ∈ qs, inInt q) (hp : ∀ q ∈ ps, inInt q) (hl : qs.length ≤ 1000000) (hl' : ps.length ≤ 1000000) :
    ∀ n ∈ [hpN op qs w.heap.size, hpN op' ps (w.heap.size + 1)], HAt n w' := by
  intro n hn
  simp only [List.mem_cons, List.not_mem_nil, or_false] at hn
  obtain ⟨q1, q2⟩ := row_two hX hf
  rcases hn with rfl | rfl
  · exact hat_N q1 hop hq hl
  · exact hat_N q2 hop' hp hl'
theorem ones_one (op : Int) (qs : List Int) (g : Nat) : ∀ u ∈ [hpN op qs g].flatMap hpcells, u.oneCell' = true := by
  intro u hu
  simp only [List.flatMap_cons, List.flatMap_nil, List.append_nil] at hu
  exact hpN_one _ _ _ u hu
theorem ones_yes (op : Int) (qs : List Int) (g : Nat) : ∀ u ∈ [hpT, hpN op qs g].flatMap hpcells, u.oneCell' = true := by
  intro u hu
  simp only [List.flatMap_cons, List.flatMap_nil, List.append_nil, List.mem_append] at hu
  rcases hu with hu | hu
  · exact hpT_one u hu
  · exact hpN_one _ _ _ u hu
theorem ones_two (op op' : Int) (qs ps : List Int) (g g' : Nat) : ∀ u ∈ [hpN op qs g, hpN op' ps g'].flatMap hpcells, u.oneCell' = true := by
  intro u hu
  simp only [List.flatMap_cons, List.flatMap_nil, List.append_nil, List.mem_append] at hu
  rcases hu with hu | hu
  · exact hpN_one _ _ _ u hu
  · exact hpN_one _ _ _ u hu
theorem opInt {op : Int} (h : 0 ≤ op ∧ op ≤ 9) : inInt op := by unfold inInt; omega
theorem hok_app {ks : List Int} {m ns : List HN} (h : ∀ i (h : i < m.length), HOk ks i m[i]) (h2 : ∀ j (h : j < ns.length), HOk ks (m.length + j) ns[j]) : ∀ i (h : i < (m ++ ns).length), HOk ks i (m ++ ns)[i] := by
  intro i hi
  rcases Nat.lt_or_ge i m.length with h3 | h3
  · rw [List.getElem_append_left h3]; exact h i h3
  · rw [List.getElem_append_right h3]
    have h4 := h2 (i - m.length) (by rw [List.length_append] at hi; omega)
    rwa [show m.length + (i - m.length) = i by omega] at h4
theorem hok_N {ks : List Int} {i : Nat} {op : Int} {qs : List Int} {g : Nat} (h1 : 1 ≤ op ∧ op ≤ 3) (h2 : 1 ≤ qs.length) (h3 : op = 3 → qs.length = 1) (hq : ∀ q ∈ qs, 0 ≤ q ∧ q < (i : Int)) : HOk ks i (hpN op qs g) :=
  ⟨by unfold hpN; dsimp only; omega, fun _ => ⟨h2, h3, hq⟩, fun h4 => by unfold hpN at h4; dsimp only at h4; omega, fun h4 => by unfold hpN at h4; dsimp only at h4; omega, fun h4 => by unfold hpN at h4; dsimp only at h4; omega⟩
theorem hok_T (ks : List Int) (i : Nat) : HOk ks i hpT := ⟨by decide, fun h => by simp [hpT] at h, fun _ h => by simp [hpT] at h, fun _ h => by simp [hpT] at h, fun h => by simp [hpT] at h⟩
section

variable {m : List HN} {r : List CV} {t u : Int} {g h' : Nat}
theorem hval_top (h1 : 1 ≤ m.length) (ht : t = (m.length : Int) - 1) : (hpvals r m []).getD t.toNat 0 = hpevalE m r := by
  rw [show t.toNat = m.length - 1 by omega]; exact hpeval_top m r
theorem heval_in : 0 ≤ hpevalE m r ∧ hpevalE m r ≤ 2 := by
  rw [← hpeval_top]; exact hpvals_in r m [] (by intro i; simp) _
theorem hev_not (h1 : 1 ≤ m.length) (ht : t = (m.length : Int) - 1) : hpevalE (m ++ [hpN 3 [t] g]) r = 2 - hpevalE m r := by
  rw [hpeval_more]
  show 2 - (hpvals r m []).getD t.toNat 0 = _
  rw [hval_top h1 ht]
theorem hev_and (h1 : 1 ≤ m.length) (ht : t = (m.length : Int) - 1) : hpevalE (m ++ [hpN 1 [t, t] g]) r = hpevalE m r := by
  rw [hpeval_more]
  show min (min 2 ((hpvals r m []).getD t.toNat 0)) ((hpvals r m []).getD t.toNat 0) = _
  rw [hval_top h1 ht]
  have := heval_in (m := m) (r := r)
  omega
theorem hev_or (h1 : 1 ≤ m.length) (ht : t = (m.length : Int) - 1) : hpevalE (m ++ [hpN 2 [t, t] g]) r = hpevalE m r := by
  rw [hpeval_more]
  show max (max 0 ((hpvals r m []).getD t.toNat 0)) ((hpvals r m []).getD t.toNat 0) = _
  rw [hval_top h1 ht]
  have := heval_in (m := m) (r := r)
  omega
theorem hvals_two (n : HN) : hpvals r (m ++ [n]) [] = hpvals r m [] ++ [hpval n r (hpvals r m [])] := by rw [hpvals_app]; rfl
theorem hval_two (n : HN) (h1 : 1 ≤ m.length) (ht : t = (m.length : Int) - 1) : (hpvals r (m ++ [n]) []).getD t.toNat 0 = hpevalE m r := by
  rw [hvals_two, getDL (by rw [hpvals_len]; simp; omega)]
  exact hval_top h1 ht
theorem hval_last (n : HN) (hu : u = (m.length : Int)) : (hpvals r (m ++ [n]) []).getD u.toNat 0 = hpevalE (m ++ [n]) r := by
  rw [hvals_two, getDR (by rw [hpvals_len]; simp; omega), hpeval_more, hpvals_len]
  simp [show u.toNat = m.length by omega]
theorem hev_yes (h1 : 1 ≤ m.length) (ht : t = (m.length : Int) - 1) (hu : u = (m.length : Int)) : hpevalE (m ++ [hpT, hpN 1 [t, u] g]) r = hpevalE m r := by
  rw [show m ++ [hpT, hpN 1 [t, u] g] = (m ++ [hpT]) ++ [hpN 1 [t, u] g] by simp, hpeval_more]
  show min (min 2 ((hpvals r (m ++ [hpT]) []).getD t.toNat 0)) ((hpvals r (m ++ [hpT]) []).getD u.toNat 0) = _
  rw [hval_two hpT h1 ht, hval_last hpT hu, hpeval_more]
  have h2 : hpval hpT r (hpvals r m []) = 2 := rfl
  rw [h2]
  have := heval_in (m := m) (r := r)
  omega
theorem hev_either (h1 : 1 ≤ m.length) (ht : t = (m.length : Int) - 1) (hu : u = (m.length : Int)) : hpevalE (m ++ [hpN 3 [t] g, hpN 2 [t, u] h']) r = max (hpevalE m r) (2 - hpevalE m r) := by
  rw [show m ++ [hpN 3 [t] g, hpN 2 [t, u] h'] = (m ++ [hpN 3 [t] g]) ++ [hpN 2 [t, u] h'] by simp, hpeval_more]
  show max (max 0 ((hpvals r (m ++ [hpN 3 [t] g]) []).getD t.toNat 0)) ((hpvals r (m ++ [hpN 3 [t] g]) []).getD u.toNat 0) = _
  rw [hval_two _ h1 ht, hval_last _ hu, hev_not h1 ht]
  have := heval_in (m := m) (r := r)
  omega
theorem hoks_not {ks : List Int} (h0 : ∀ i (h : i < m.length), HOk ks i m[i]) (h1 : 1 ≤ m.length) (ht : t = (m.length : Int) - 1) : ∀ i (h : i < (m ++ [hpN 3 [t] g]).length), HOk ks i (m ++ [hpN 3 [t] g])[i] :=
  hok_app h0 fun j hj => by
    obtain rfl : j = 0 := by simpa using hj
    exact hok_N (by omega) (by simp) (fun _ => rfl) (by intro q hq; rw [List.mem_singleton.1 hq]; omega)
theorem hoks_two {ks : List Int} {op : Int} (hop : op = 1 ∨ op = 2) (h0 : ∀ i (h : i < m.length), HOk ks i m[i]) (h1 : 1 ≤ m.length) (ht : t = (m.length : Int) - 1) : ∀ i (h : i < (m ++ [hpN op [t, t] g]).length), HOk ks i (m ++ [hpN op [t, t] g])[i] :=
  hok_app h0 fun j hj => by
    obtain rfl : j = 0 := by simpa using hj
    exact hok_N (by omega) (by simp) (fun _ => by omega) (by intro q hq; simp at hq; rw [hq]; omega)
theorem hoks_yes {ks : List Int} (h0 : ∀ i (h : i < m.length), HOk ks i m[i]) (h1 : 1 ≤ m.length) (ht : t = (m.length : Int) - 1) (hu : u = (m.length : Int)) : ∀ i (h : i < (m ++ [hpT, hpN 1 [t, u] g]).length), HOk ks i (m ++ [hpT, hpN 1 [t, u] g])[i] :=
  hok_app h0 fun j hj => by
    rcases (by simp at hj; omega : j = 0 ∨ j = 1) with rfl | rfl
    · exact hok_T _ _
    · exact hok_N (by omega) (by simp) (fun _ => by omega) (by intro q hq; simp at hq; rcases hq with rfl | rfl <;> omega)
theorem hoks_either {ks : List Int} (h0 : ∀ i (h : i < m.length), HOk ks i m[i]) (h1 : 1 ≤ m.length) (ht : t = (m.length : Int) - 1) (hu : u = (m.length : Int)) : ∀ i (h : i < (m ++ [hpN 3 [t] g, hpN 2 [t, u] h']).length), HOk ks i (m ++ [hpN 3 [t] g, hpN 2 [t, u] h'])[i] :=
  hok_app h0 fun j hj => by
    rcases (by simp at hj; omega : j = 0 ∨ j = 1) with rfl | rfl
    · exact hok_N (by omega) (by simp) (fun _ => rfl) (by intro q hq; rw [List.mem_singleton.1 hq]; omega)
    · exact hok_N (by omega) (by simp) (fun _ => by omega) (by intro q hq; simp at hq; rcases hq with rfl | rfl <;> omega)
end

end Go.Proofs.YtniniophoocalaaDoor

/- What the law PredHolds stands on: the rows that may be, what is known of their columns (layer 18). Written by gen_pred_holds.py. -/













namespace Go.Proofs.YtniniophoocalaaDoor

open Go.RowKit Go.ChangeShapes Go.WideShapes Go.ChangeAt

noncomputable def hown (l0 : List CC) (l : List (List CV × Value)) : List (List CV × Value) := l.filter fun r => krow l0 r.1 == 0
theorem hown_yes {l0 : List CC} {l : List (List CV × Value)} {k : Nat} (h : k < l.length) (hz : krow l0 l[k].1 = 0) : hown l0 (l.take (k + 1)) = hown l0 (l.take k) ++ [l[k]] := by
  unfold hown
  rw [List.take_succ_eq_append_getElem h, List.filter_append]
  simp [List.filter, hz]
theorem hown_no {l0 : List CC} {l : List (List CV × Value)} {k : Nat} (h : k < l.length) (hz : krow l0 l[k].1 = 21) : hown l0 (l.take (k + 1)) = hown l0 (l.take k) := by
  unfold hown
  rw [List.take_succ_eq_append_getElem h, List.filter_append]
  simp [List.filter, hz]
theorem hown_len (l0 : List CC) (l : List (List CV × Value)) (k : Nat) : (hown l0 (l.take k)).length ≤ k := by
  have h1 := List.length_filter_le (fun r : List CV × Value => krow l0 r.1 == 0) (l.take k)
  have h2 : (l.take k).length ≤ k := by rw [List.length_take]; omega
  exact Nat.le_trans h1 h2
theorem hown_mem {l0 : List CC} {l : List (List CV × Value)} {k : Nat} {r : List CV × Value} (h : r ∈ hown l0 (l.take k)) : r ∈ l ∧ krow l0 r.1 = 0 := by
  unfold hown at h
  obtain ⟨h1, h2⟩ := List.mem_filter.1 h
  exact ⟨List.mem_of_mem_take h1, by simpa using h2⟩
def hcol (rs : List (List CV × Value)) (c : Nat) : List CV := rs.map fun r => r.1.getD c nul
theorem hcol_snoc {rs : List (List CV × Value)} {j : Nat} (c : Nat) (h : j < rs.length) : hcol (rs.take (j + 1)) c = hcol (rs.take j) c ++ [rs[j].1.getD c nul] := by
  unfold hcol
  rw [List.take_succ_eq_append_getElem h, List.map_append]
  rfl
theorem hcol_len (rs : List (List CV × Value)) (c : Nat) : (hcol rs c).length = rs.length := List.length_map _
def hstat (ks : List Int) (rs : List (List CV × Value)) (c : Nat) : GS := gofE (ks.getD c 0) (hcol rs c)
def hstats (ks : List Int) (rs : List (List CV × Value)) (k : Nat) : List GS := (List.range k).map (hstat ks rs)
theorem hstats_snoc (ks : List Int) (rs : List (List CV × Value)) (k : Nat) : hstats ks rs (k + 1) = hstats ks rs k ++ [hstat ks rs k] := by
  unfold hstats
  rw [List.range_succ, List.map_append]
  rfl
theorem hstats_len (ks : List Int) (rs : List (List CV × Value)) (k : Nat) : (hstats ks rs k).length = k := by unfold hstats; simp
theorem hstats_at (ks : List Int) (rs : List (List CV × Value)) {k c : Nat} (h : c < k) : (hstats ks rs k).getD c hpnull = hstat ks rs c := by
  rw [getD_lt (by rw [hstats_len]; exact h)]
  simp [hstats]
theorem gof_endH {k : Int} {l : List CV} (P : CV → Prop) (h0 : P nul) (hi : ∀ x ∈ l, P x) : P (gofE k l).min ∧ P (gofE k l).max := by
  unfold gofE
  dsimp only
  by_cases h : nsome l = []
  · rw [h]; exact ⟨h0, h0⟩
  · have hin : ∀ x ∈ nsome l, P x := fun x hx => hi x (by unfold nsome at hx; exact (List.mem_filter.1 hx).1)
    exact ⟨hin _ (gleast_is h).1, hin _ (gmost_is h).1⟩
theorem gof_inH {k : Int} {l : List CV} (hi : ∀ x ∈ l, x.inInt) (hl : l.length ≤ 1000000) : (gofE k l).inInt := by
  have h1 := nsome_len l
  obtain ⟨e1, e2⟩ := gof_endH (k := k) CV.inInt (by unfold CV.inInt nul; dsimp only; omega) hi
  refine ⟨?_, ?_, e1, e2, ?_⟩
  · unfold gofE; dsimp only; omega
  · unfold gofE; dsimp only; omega
  · unfold gofE gsumE
    dsimp only
    split
    · split
      · rename_i h; exact h
      · omega
    · omega
theorem gof_sizeH {k : Int} {l : List CV} (hs : ∀ x ∈ l, x.s.size ≤ maxLen) : (gofE k l).min.s.size ≤ maxLen ∧ (gofE k l).max.s.size ≤ maxLen :=
  gof_endH (fun x => x.s.size ≤ maxLen) (by simp [nul, ByteArray.size]) hs
theorem getD_P {P : CV → Prop} {r : List CV} (h0 : P nul) (h : ∀ x ∈ r, P x) (c : Nat) : P (r.getD c nul) := by
  rcases Nat.lt_or_ge c r.length with h1 | h1
  · rw [getD_lt h1]; exact h _ (List.getElem_mem h1)
  · rw [getDN h1]; exact h0
theorem hcol_P {P : CV → Prop} {rs : List (List CV × Value)} (h0 : P nul) (h : ∀ r ∈ rs, ∀ x ∈ r.1, P x) (c : Nat) : ∀ x ∈ hcol rs c, P x := by
  intro x hx
  obtain ⟨r, hr, rfl⟩ := List.mem_map.1 hx
  exact getD_P h0 (h r hr) c
theorem hstats_ok {ks : List Int} {rs : List (List CV × Value)} (h1 : ∀ r ∈ rs, ∀ x ∈ r.1, x.inInt) (h2 : ∀ r ∈ rs, ∀ x ∈ r.1, x.s.size ≤ maxLen) (hl : rs.length ≤ 1000000) (k : Nat) : ∀ s ∈ hstats ks rs k, s.inInt ∧ s.min.s.size ≤ maxLen ∧ s.max.s.size ≤ maxLen := by
  intro s hs
  obtain ⟨c, _, rfl⟩ := List.mem_map.1 hs
  exact ⟨gof_inH (hcol_P (by unfold CV.inInt nul; dsimp only; omega) h1 c) (by rw [hcol_len]; exact hl), gof_sizeH (hcol_P (P := fun x => x.s.size ≤ maxLen) (by simp [nul, ByteArray.size]) h2 c)⟩
theorem hstats_cnt {ks : List Int} {rs : List (List CV × Value)} {k : Nat} : ∀ s ∈ hstats ks rs k, 0 ≤ s.count := by
  intro s hs
  obtain ⟨c, _, rfl⟩ := List.mem_map.1 hs
  unfold hstat gofE
  exact Int.natCast_nonneg _
/-- A value of a row is one of those of which something is known. -/
theorem gof_within {k : Int} {l : List CV} {v : CV} (h : v ∈ l) : hpwithin (gofE k l) v := by
  refine ⟨fun hn => List.any_eq_true.2 ⟨v, h, hn⟩, fun hn => ?_⟩
  have hin : v ∈ nsome l := List.mem_filter.2 ⟨h, by simp [hn]⟩
  have hne := List.ne_nil_of_mem hin
  exact ⟨by have := List.length_pos_of_mem hin; show (0 : Int) < ((nsome l).length : Int); omega, (gleast_is hne).2 v hin, (gmost_is hne).2 v hin⟩
theorem hstats_within {ks : List Int} {rs : List (List CV × Value)} {r : List CV × Value} (h : r ∈ rs) {k c : Nat} (hc : c < k) : hpwithin ((hstats ks rs k).getD c hpnull) (r.1.getD c nul) := by
  rw [hstats_at ks rs hc]
  exact gof_within (List.mem_map.2 ⟨r, h, rfl⟩)
theorem elemRow : ∃ b, b ≤ 100 ∧ ElemW Tryd.prog 27 32 b 1 (.slice none 0 0) := by
  have h : (Tryd.prog.info? 32).map (fun i => (i.zero, i.size, decide (i.bytes ≤ 100))) = some (some (.slice none 0 0), 1, true) := by kernel_rfl
  cases hi : Tryd.prog.info? 32 with
  | none => rw [hi] at h; cases h
  | some i =>
    rw [hi] at h
    injection h with h
    injection h with h1 h
    injection h with h2 h3
    exact ⟨i.bytes, of_decide_eq_true h3, Tryd.underlying27, rfl, by omega, i, hi, h1, h2, rfl⟩
def HOwnRel (l0 : List CC) (l2 : List (List CV × Value)) (w : World) (v i : Value) (wr : World) : Prop := ∃ k : Nat, k ≤ l2.length ∧ k ≤ 20 ∧ i = .int .i64 (k : Int) ∧ wr.ownsRow w.heap.size 32 1 v (hown l0 (l2.take k)).length ((hown l0 (l2.take k)).flatMap hrcells) ∧ Below w.heap.size w wr
def HStatRel (ks : List Int) (rs : List (List CV × Value)) (m : Nat) (w : World) (v i : Value) (wr : World) : Prop := ∃ k : Nat, k ≤ m ∧ i = .int .i64 (k : Int) ∧ wr.ownsRow w.heap.size 43 10 v k ((hstats ks rs k).flatMap gcells) ∧ Below w.heap.size w wr
def HColRel (rs : List (List CV × Value)) (c : Nat) (w : World) (v i : Value) (wr : World) : Prop := ∃ j : Nat, j ≤ rs.length ∧ i = .int .i64 (j : Int) ∧ wr.ownsRow w.heap.size 41 3 v j ((hcol (rs.take j) c).flatMap kcells) ∧ Below w.heap.size w wr
def HDoneRel (m : Nat) (w : World) (i : Value) (wr : World) : Prop := ∃ j : Nat, j ≤ m ∧ i = .int .i64 (j : Int) ∧ Below w.heap.size w wr
theorem isRows_own {base n : Nat} {w : World} {v : Value} {l : List (List CV × Value)} (h : w.ownsRow base 32 1 v n (l.flatMap hrcells)) (hr : ∀ r ∈ l, HRow r.1 r.2 w) : IsRows l v w := ⟨isR_own (m := 1) (fun _ => rfl) (by omega) h, hr⟩
theorem hschH_or (l : List CC) : (kscheme l = 0 ∧ l.length ≤ 6) ∨ kscheme l = 20 := by
  unfold kscheme
  split
  · rename_i h; exact .inl ⟨rfl, h.2.1⟩
  · exact .inr rfl
theorem hrowH_or (l : List CC) (r : List CV) : (krow l r = 0 ∧ l.length = r.length) ∨ krow l r = 21 := by
  unfold krow
  split
  · rename_i h; exact .inl ⟨rfl, h.1⟩
  · exact .inr rfl
end Go.Proofs.YtniniophoocalaaDoor
