/- Texts that the claims of this seat share, part 11: JSp JIs JShown. -/
import Derived.Test.YtblpkmmhmdpkjaaGreatDoorDG10
/- texts' own contracts: split, chosen. -/





namespace Go.Proofs.YtblpkmmhmdpkjaaGreatDoor

open Go.RowKit

def JPickRel (ws : List ByteArray) (ns : List Int) (m g : Nat) (w : World) (i : Value) (wr : World) : Prop :=
  ∃ (k : Nat) (o : List ByteArray), k ≤ m ∧ i = .int .i64 (k : Int) ∧ o.length = m ∧ jpick ws ns = (jpick ws (ns.drop k)).map (o.take k ++ ·) ∧ Row wr g 9 (o.map Value.string) ∧ Below g w wr
def jchoose (ws : List ByteArray) (o : Option (List Int)) : Option (List ByteArray) := match o with | none => none | some ns => jpick ws ns
set_option maxHeartbeats 2000000 in
set_option maxRecDepth 100000 in
theorem jchosen_any (ws : List ByteArray) (places : List UInt8) (u v : Value) (M : Int) (w : World) (ht : WTab w) (hu : IsV Value.string ws u w) (hv : IsB places v w) (hb : ws.length ≤ 1000000) (hb2 : places.length ≤ 1000000) :
    Calls Tryz.prog 45 #[u, v, .int .i64 M] w (RetTB w (jchoose ws (jnums places M))) := by
  have HNU := Lib.hid (jnumbers_any places v M w ht hv hb2)
  have HU := Lib.hid hu
  obtain ⟨Bw, wn, wc, rfl⟩ := hu.shape
  have HWN := Lib.hid hu.parts.1
  have hw6 : wn ≤ 1000000 := by have := HWN.out; omega
  obtain ⟨o, ho⟩ : ∃ o, o = jnums places M := ⟨_, rfl⟩
  have HO := Lib.hid ho
  rw [← ho] at HNU ⊢
  have hM4 : ∀ ns, o = some ns → ns.length ≤ 4096 := by
    intro ns h
    rw [ho] at h
    unfold jnums at h
    split at h
    · cases h
    · injection h with h
      rw [← h]
      exact utakeE_len _ _ _
  have HM4 := Lib.hid hM4
  clear ht hu hv hb hb2 ho hM4
  cases o with
  | none =>
    go_enter Tryz.func45, Tryz.ntmps45
    go_wp2_with fail
    refine HNU.out.mono ?_
    rintro e w1 ⟨nv, rfl, hns, hb1⟩
    have HB := Lib.hid hb1
    clear hb1 hns
    dsimp only [Option.isSome]
    go_wp2
    go_ret2
    exact RetTB.none _ HB.out
  | some ns =>
    have HNP := Lib.hid (jnums_ok HO.out.symm).2
    have hm4 := HM4.out ns rfl
    go_enter Tryz.func45, Tryz.ntmps45
    go_wp2_with fail
    refine HNU.out.mono ?_
    rintro e w1 ⟨nv, rfl, hns, hb1⟩
    dsimp only [Option.isSome, Option.getD] at hns ⊢
    obtain ⟨Bn, nn, nc, rfl⟩ := hns.shape
    have HNL := Lib.hid (show ns.length = nn from hns.parts.1)
    have hn4 : nn ≤ 4096 := by have := HNL.out; omega
    have HNS := Lib.hid hns
    have HB1 := Lib.hid hb1
    have HU1 := Lib.hid (HU.out.below hb1)
    clear hb1 hns hm4
    go_wp2_with (refine wpList_make elemS rfl _ _ rfl _ _ _ _ nn w1 w1.heap.size rfl rfl rfl rfl (by omega) (by omega) (Below.refl _ _) (Nat.le_refl _) ?_)
    intro w2 hr2 hb2
    have HST := Lib.hid (show JPickRel ws ns nn w1.heap.size w1 (.int .i64 0) w2 from ⟨0, List.replicate nn ⟨#[]⟩, by omega, rfl, by simp, by cases h : jpick ws ns <;> simp [h], by rw [List.map_replicate]; exact hr2, hb2⟩)
    clear hr2 hb2
    go_wp2
    go_loopw [26] (JPickRel ws ns nn w1.heap.size w1) (fun i _ => nn - (intOf i).toNat)
    case atStart => exact HST.out
    case round =>
      obtain ⟨k, o, hk, rfl, hol, hpk, hr, hbr⟩ := hrel
      clear HST
      have HOL := Lib.hid hol
      have HPK := Lib.hid hpk
      clear hol hpk
      by_cases hlt : k < nn
      · have hkl : k < ns.length := by have := HNL.out; omega
        have hlti : (k : Int) < (nn : Int) := by omega
        obtain ⟨ad, rfl, had, hcell⟩ := (HNS.out.below hbr).at hkl
        obtain ⟨N, hN⟩ := Int.eq_ofNat_of_zero_le (HNP.out _ (List.getElem_mem hkl))
        have hcn : wr.cell? (ad.add k) = some (.int .i64 (N : Int)) := by rw [hcell, hN]; rfl
        have HD := Lib.hid (show ns.drop k = (N : Int) :: ns.drop (k + 1) by rw [List.drop_eq_getElem_cons hkl, hN])
        clear hcell hN had
        by_cases hNw : wn ≤ N
        · have d8 : decide (wn ≤ N) = true := decide_eq_true hNw
          have d9 : decide ((wn : Int) ≤ (N : Int)) = true := decide_eq_true (by omega)
          have HE := Lib.hid (show jchoose ws (some ns) = none by show jpick ws ns = none; rw [HPK.out, HD.out, jpick_bad (by have := HWN.out; omega)]; rfl)
          have HB := Lib.hid (below_then HB1.out (hbr.mono (Nat.le_refl _)))
          clear hr hbr
          go_wp2
          go_ret2
          rw [HE.out]
          exact RetTB.none _ HB.out
        · have d8 : decide (wn ≤ N) = false := decide_eq_false hNw
          have d9 : decide ((wn : Int) ≤ (N : Int)) = false := decide_eq_false (by omega)
          have hNl : N < ws.length := by have := HWN.out; omega
          have hNi : (N : Int) < (wn : Int) := by omega
          obtain ⟨ad6, rfl, _, hcell6⟩ := (HU1.out.below hbr).at hNl
          obtain ⟨s, hs⟩ : ∃ s, s = ws[N] := ⟨_, rfl⟩
          rw [← hs] at hcell6
          have hko : k < o.length := by have := HOL.out; omega
          have HP2 := Lib.hid (show jpick ws ns = (jpick ws (ns.drop (k + 1))).map ((o.set k s).take (k + 1) ++ ·) by
            rw [HPK.out, HD.out, jpick_next hNl, ← hs, Option.map_map, jset_take _ _ _ hko]
            congr 1
            funext y
            simp)
          have hcx : wr.cell? ⟨w1.heap.size, k, none⟩ = some (Value.string o[k]) := by rw [hr.cell, List.getElem?_map, List.getElem?_eq_getElem hko]; rfl
          have hfx := hr.free k
          have hr2 := hr.set_ k (.string s)
          rw [show (o.map Value.string).set k (.string s) = (o.set k s).map Value.string from List.map_set.symm] at hr2
          have HR2 := Lib.hid hr2
          have HBR := Lib.hid hbr
          clear hr2 hr hbr hs hNw
          go_wp2
          go_roundw
          case rel => exact ⟨k + 1, o.set k s, by omega, by go_num, by rw [List.length_set]; exact HOL.out, HP2.out, HR2.out, HBR.out.setCell (Nat.le_refl _) _⟩
          case measure => simp [intOf]; omega
      · obtain rfl : k = nn := by omega
        have hlti : ¬ (k : Int) < (k : Int) := by omega
        have hend := HPK.out
        rw [List.drop_of_length_le (by have := HNL.out; omega), jpick] at hend
        have HE := Lib.hid (show jchoose ws (some ns) = some o by show jpick ws ns = some o; rw [hend, List.take_of_length_le (by rw [HOL.out]; exact Nat.le_refl _)]; simp)
        have HB := Lib.hid (below_then HB1.out (hbr.mono (Nat.le_refl _)))
        have HOW := Lib.hid (show OwnV Value.string 9 w o (.slice (some ⟨w1.heap.size, 0, none⟩) k k) wr from ⟨k, own_of_row hr (by rw [List.length_map]; exact HOL.out) HB1.out.size (by omega)⟩)
        clear hr hbr hend
        go_wp2
        go_ret2
        rw [HE.out]
        exact ⟨_, rfl, fun l h => by injection h with h; rw [← h]; exact HOW.out, HB.out⟩
def jsplitO (b : List UInt8) : Option (List Int) → Option (List ByteArray)
  | none => none
  | some ns => jpieces b ns
theorem jcut_split (b l : List UInt8) (many : Int) : jcut b l many = jsplitO b (jnums l many) := by
  rw [jcut_nums]
  cases jnums l many <;> rfl
def JSplRel (b0 : List UInt8) (ns : List Int) (m g : Nat) (w w1 : World) (bv_ i : Value) (wr : World) : Prop :=
  ∃ (k : Nat) (rest : List UInt8) (o : List ByteArray), k ≤ m ∧ i = .int .i64 (k : Int) ∧ IsB rest bv_ w ∧ rest.length ≤ 1000000 ∧ o.length = m ∧ jpieces b0 ns = (jpieces rest (ns.drop k)).map (o.take k ++ ·) ∧ Row wr g 9 (o.map Value.string) ∧ Below g w1 wr
section

variable {P : Program} {o : Oper} {ρ : Operand → Value} {w : World} {R : Value → World → Prop}
/-- One value stored into a row. -/
theorem gives_store_one {t t' : TypeId} {x y : Operand} {g k : Nat} {old : List Value} {s : ByteArray} (ho : o.op = .store t x y) (hx : ρ x = .pointer (some ⟨g, k, none⟩)) (hy : ρ y = .string s) (hr : Row w g t' old)
    (hi : (P.info? t).map (·.size) = some 1) (hk : k < old.length) (hR : R undef (w.setCell ⟨g, k, none⟩ (.string s))) : Gives P o ρ w R := by
  have hc : w.cell? ⟨g, k, none⟩ = some old[k] := by rw [hr.cell, List.getElem?_eq_getElem hk]
  have hf := hr.free k
  have h : (execOp ρ o).run P w = .ok .skip (w.setCell ⟨g, k, none⟩ (.string s)) := by
    unfold execOp
    have hst : (storeVar t ⟨g, k, none⟩ (.string s)).run P w = .ok () (w.setCell ⟨g, k, none⟩ (.string s)) := by
      cases hq : P.info? t with
      | none => simp [hq] at hi
      | some i =>
        have hs : i.size = 1 := by simpa [hq] using hi
        simp [storeVar, sizeOf, typeInfo, hq, Value.cells, hs, Result.andThen, storeCells]
        rw [show (⟨g, k, none⟩ : Addr).add 0 = ⟨g, k, none⟩ by simp [Addr.add], run_store P w _ _ _ rfl]
        simp [hc, hf]
    simp only [ho, hx, hy, Instr.storeAt, Instr.sureAddr, Sem.run_bind, Sem.run_pure, Result.andThen_ok, hst]
  unfold Gives
  rw [h]
  exact hR
end
set_option maxHeartbeats 4000000 in
set_option maxRecDepth 100000 in
theorem jsplit_any (b lengths : List UInt8) (M : Int) (u v : Value) (w : World) (ht : WTab w) (hu : IsB b u w) (hv : IsB lengths v w) (hb : b.length ≤ 1000000) (hb2 : lengths.length ≤ 1000000) :
    Calls Tryz.prog 43 #[u, v, .int .i64 M] w (RetTB w (jcut b lengths M)) := by
  have HNU := Lib.hid (jnumbers_any lengths v M w ht hv hb2)
  have HU := Lib.hid hu
  have HBL := Lib.hid hb
  obtain ⟨A, n, c, rfl⟩ := IsV.shape (f := bv) hu
  obtain ⟨o, ho⟩ : ∃ o, o = jnums lengths M := ⟨_, rfl⟩
  have HO := Lib.hid ho
  have HJ := Lib.hid (show jcut b lengths M = jsplitO b o by rw [ho]; exact jcut_split b lengths M)
  rw [HJ.out]
  rw [← ho] at HNU
  have hM4 : ∀ ns, o = some ns → ns.length ≤ 4096 := by
    intro ns h
    rw [ho] at h
    unfold jnums at h
    split at h
    · cases h
    · injection h with h
      rw [← h]
      exact utakeE_len _ _ _
  have HM4 := Lib.hid hM4
  clear ht hu hv hb hb2 ho hM4 HJ
  cases o with
  | none =>
    go_enter Tryz.func43, Tryz.ntmps43
    go_wp2_with fail
    refine HNU.out.mono ?_
    rintro e w1 ⟨nv, rfl, hns, hb1⟩
    have HB := Lib.hid hb1
    clear hb1 hns
    dsimp only [Option.isSome]
    go_wp2
    go_ret2
    exact RetTB.none _ HB.out
  | some ns =>
    have HNP := Lib.hid (jnums_ok HO.out.symm).2
    have hm4 := HM4.out ns rfl
    go_enter Tryz.func43, Tryz.ntmps43
    go_wp2_with fail
    refine HNU.out.mono ?_
    rintro e w1 ⟨nv, rfl, hns, hb1⟩
    dsimp only [Option.isSome, Option.getD] at hns ⊢
    obtain ⟨Bn, nn, nc, rfl⟩ := hns.shape
    have HNL := Lib.hid (show ns.length = nn from hns.parts.1)
    have hn4 : nn ≤ 4096 := by have := HNL.out; omega
    have HNS := Lib.hid hns
    have HB1 := Lib.hid hb1
    clear hb1 hns hm4
    go_wp2_with (refine wpList_make elemS rfl _ _ rfl _ _ _ _ nn w1 w1.heap.size rfl rfl rfl rfl (by omega) (by omega) (Below.refl _ _) (Nat.le_refl _) ?_)
    intro w2 hr2 hb2
    have HST := Lib.hid (show JSplRel b ns nn w1.heap.size w w1 (.slice A n c) (.int .i64 0) w2 from ⟨0, b, List.replicate nn ⟨#[]⟩, by omega, rfl, HU.out, HBL.out, by simp, by cases h : jpieces b ns <;> simp [h], by rw [List.map_replicate]; exact hr2, hb2⟩)
    clear hr2 hb2
    go_wp2
    go_loopw [0, 26] (JSplRel b ns nn w1.heap.size w w1) (fun _ i _ => nn - (intOf i).toNat)
    case atStart => exact HST.out
    case round =>
      obtain ⟨k, rest, o, hk, rfl, hrb, hrl, hol, hpk, hr, hbr⟩ := hrel
      clear HST
      have HOL := Lib.hid hol
      have HPK := Lib.hid hpk
      have HRB := Lib.hid hrb
      have HB := Lib.hid (below_then HB1.out hbr)
      obtain ⟨R, rl, rc2, rfl⟩ := IsV.shape (f := bv) hrb
      obtain ⟨hrl2, hR, hrc, hrm, hLI⟩ := IsV.parts (f := bv) (show IsV bv rest _ _ from hrb)
      have hrci : (rc2 : Int) ≤ 9223372036854775807 := by unfold maxLen at hrm; omega
      have HRL := Lib.hid hrl2
      clear hol hpk hrb
      by_cases hlt : k < nn
      · have hkl : k < ns.length := by have := HNL.out; omega
        have hlti : (k : Int) < (nn : Int) := by omega
        obtain ⟨ad, rfl, had, hcell⟩ := (HNS.out.below hbr).at hkl
        obtain ⟨N, hN⟩ := Int.eq_ofNat_of_zero_le (HNP.out _ (List.getElem_mem hkl))
        have hcn : wr.cell? (ad.add k) = some (.int .i64 (N : Int)) := by rw [hcell, hN]; rfl
        have HD := Lib.hid (show ns.drop k = (N : Int) :: ns.drop (k + 1) by rw [List.drop_eq_getElem_cons hkl, hN])
        clear hcell hN had
        by_cases h3 : 300 < N
        · have HE := Lib.hid (show jpieces b ns = none by rw [HPK.out, HD.out, jpieces_bad (.inl (by omega))]; rfl)
          have d1 : decide ((300 : Int) < (N : Int)) = true := decide_eq_true (by omega)
          clear hr hbr hR hLI
          go_wp2
          go_ret2
          show RetTB w (jpieces b ns) _ _
          rw [HE.out]
          exact RetTB.none _ HB.out
        · have d1 : decide ((300 : Int) < (N : Int)) = false := decide_eq_false (by omega)
          by_cases h4 : rl < N
          · have HE := Lib.hid (show jpieces b ns = none by rw [HPK.out, HD.out, jpieces_bad (.inr (by have := HRL.out; omega))]; rfl)
            have d2 : decide (rl < N) = true := decide_eq_true h4
            have d3 : decide ((rl : Int) < (N : Int)) = true := decide_eq_true (by omega)
            clear hr hbr hR hLI
            go_wp2
            go_ret2
            show RetTB w (jpieces b ns) _ _
            rw [HE.out]
            exact RetTB.none _ HB.out
          · have d2 : decide (rl < N) = false := decide_eq_false h4
            have d3 : decide ((rl : Int) < (N : Int)) = false := decide_eq_false (by omega)
            have hNc : N ≤ rc2 := by omega
            have HTX := Lib.hid (fun (X : World) (h : Below w.heap.size w X) => textB (l := rest.take N) (v := .slice R N rc2) (IsV.below (f := bv) (IsV.take (f := bv) HRB.out (by omega)) h))
            obtain ⟨v3, hv3, hI3⟩ := from_named (P := Tryz.prog) (w := w) elemB (k := N) (by omega) hrc hrm HRL.out hLI hR
            obtain ⟨t, ht⟩ : ∃ t : ByteArray, t = ⟨(rest.take N).toArray⟩ := ⟨_, rfl⟩
            rw [← ht] at HTX
            have hko : k < o.length := by have := HOL.out; omega
            have HP2 := Lib.hid (show jpieces b ns = (jpieces (rest.drop N) (ns.drop (k + 1))).map ((o.set k t).take (k + 1) ++ ·) by
              rw [HPK.out, HD.out, jpieces_next (by omega) (by have := HRL.out; omega), Option.map_map, ht, jset_take _ _ _ hko]
              congr 1
              funext y
              simp)
            have HV3 := Lib.hid hv3
            have HI3 := Lib.hid hI3
            have HDL := Lib.hid (show (rest.drop N).length ≤ 1000000 by rw [List.length_drop]; omega)
            obtain ⟨cur, hcur⟩ : ∃ cur, cur = o.map Value.string := ⟨_, rfl⟩
            obtain ⟨new, hnew⟩ : ∃ new, new = (o.set k t).map Value.string := ⟨_, rfl⟩
            have HSC := Lib.hid (show cur.set k (.string t) = new by rw [hcur, hnew]; exact List.map_set.symm)
            have HSN := Lib.hid (show new.set k (.string t) = new by rw [hnew, List.map_set, List.set_set])
            have HLC := Lib.hid (show k < cur.length by rw [hcur, List.length_map]; exact hko)
            have HLN := Lib.hid (show k < new.length by rw [hnew, List.length_map, List.length_set]; exact hko)
            rw [← hcur] at hr
            have HR := Lib.hid hr
            have HNEW := Lib.hid hnew
            have HBR := Lib.hid hbr
            have HWZ := Lib.hid HB1.out.size
            clear hI3 hv3 ht h3 h4 hR hLI hr hbr hcur hnew hko
            go_wp2_with fail
            refine wp_region_listR (turn_later w1.heap.size w1.heap.size 9 cur new) [.is (.slice (some ⟨w1.heap.size, 0, none⟩) nn nn), .is (.int .i64 (k : Int)), .is (.slice R rl rc2), .is (.int .i64 (N : Int)), .is (.slice R N rc2), .is (.string t), .is (.slice R rl rc2), .is (.int .i64 (N : Int)), .is v3, .is (.pointer (some ⟨w1.heap.size, k, none⟩)),
              .of (fun _ W => Row W w1.heap.size 9 new) (fun _ W W' h hk => hk.2.2 h), .is v3]
              [some 39, some 40, some 41, some 42, some 43, some 44, some 45, some 46, some 47, some 48, none, some 0] (by kernel_rfl) (by kernel_rfl) (by kernel_rfl) (by kernel_rfl) rfl ⟨?_, ?_, ?_, ?_, ?_, ?_, ?_, ?_, ?_, ?_, ?_, ?_, trivial⟩ ?_
            · intro ρ vs W1 hb1 H
              exact gives_move rfl (H.old 10 _ (by kernel_rfl) rfl) ⟨upd_at _ _ _, (turn_later _ _ _ _ _).refl _⟩
            · intro ρ vs W1 hb1 H
              exact gives_move rfl (H.old 11 _ (by kernel_rfl) rfl) ⟨upd_at _ _ _, (turn_later _ _ _ _ _).refl _⟩
            · intro ρ vs W1 hb1 H
              exact gives_move rfl (H.old 0 _ (by kernel_rfl) rfl) ⟨upd_at _ _ _, (turn_later _ _ _ _ _).refl _⟩
            · intro ρ vs W1 hb1 H
              exact gives_move rfl (H.old 12 _ (by kernel_rfl) rfl) ⟨upd_at _ _ _, (turn_later _ _ _ _ _).refl _⟩
            · intro ρ vs W1 hb1 H
              exact gives_upto elemB rfl (H.holds 41 2 (by kernel_rfl)) (H.holds 42 3 (by kernel_rfl)) hNc ⟨upd_at _ _ _, (turn_later _ _ _ _ _).refl _⟩
            · intro ρ vs W1 hb1 H
              exact gives_convert rfl (H.holds 43 4 (by kernel_rfl)) (HTX.out W1 (HB.out.trans (hb1.1.mono HWZ.out))) ⟨upd_at _ _ _, (turn_later _ _ _ _ _).refl _⟩
            · intro ρ vs W1 hb1 H
              exact gives_move rfl (H.old 0 _ (by kernel_rfl) rfl) ⟨upd_at _ _ _, (turn_later _ _ _ _ _).refl _⟩
            · intro ρ vs W1 hb1 H
              exact gives_move rfl (H.old 12 _ (by kernel_rfl) rfl) ⟨upd_at _ _ _, (turn_later _ _ _ _ _).refl _⟩
            · intro ρ vs W1 hb1 H
              have e1 : ρ (.tmp 46) = .int .i64 (N : Int) := H.holds 46 7 (by kernel_rfl)
              exact gives_slice rfl (H.holds 45 6 (by kernel_rfl)) (by simp only [Option.map_some]; rw [e1]) rfl rfl (HV3.out W1) ⟨upd_at _ _ _, (turn_later _ _ _ _ _).refl _⟩
            · intro ρ vs W1 hb1 H
              refine gives_index elemS (ad := ⟨w1.heap.size, 0, none⟩) (k := k) rfl (H.holds 39 0 (by kernel_rfl)) (H.holds 40 1 (by kernel_rfl)) hlt ?_
              rw [show (⟨w1.heap.size, 0, none⟩ : Addr).add k = ⟨w1.heap.size, k, none⟩ by unfold Addr.add; split <;> simp_all]
              exact ⟨upd_at _ _ _, (turn_later _ _ _ _ _).refl _⟩
            · intro ρ vs W1 hb1 H
              have hto : ∀ (l : List Value), l.set k (.string t) = new → Row W1 w1.heap.size 9 l → Row (W1.setCell ⟨w1.heap.size, k, none⟩ (.string t)) w1.heap.size 9 new := fun l hl hr => by rw [← hl]; exact hr.set_ k _
              have hset : Below w1.heap.size W1 (W1.setCell ⟨w1.heap.size, k, none⟩ (.string t)) := (Below.refl w1.heap.size W1).setCell (p := ⟨w1.heap.size, k, none⟩) (Nat.le_refl _) _
              rcases hb1.2.1 HR.out with h | h
              · exact gives_store_one rfl (H.holds 48 9 (by kernel_rfl)) (H.holds 44 5 (by kernel_rfl)) h (by kernel_rfl) HLC.out ⟨hto _ HSC.out h, hset, fun _ => .inr (hto _ HSC.out h), fun hr => hto _ HSN.out hr⟩
              · exact gives_store_one rfl (H.holds 48 9 (by kernel_rfl)) (H.holds 44 5 (by kernel_rfl)) h (by kernel_rfl) HLN.out ⟨hto _ HSN.out h, hset, fun _ => .inr (hto _ HSN.out h), fun hr => hto _ HSN.out hr⟩
            · intro ρ vs W1 hb1 H
              exact gives_assign rfl (H.holds 47 8 (by kernel_rfl)) ⟨upd_at _ _ _, (turn_later _ _ _ _ _).refl _⟩
            · intro vs W1 hb1 hfs
              have f10 : Row W1 w1.heap.size 9 new := hfs 10 (by decide)
              have f11 : vs 11 = v3 := hfs 11 (by decide)
              clear hfs
              simp only [putAll, Nat.zero_add, Nat.reduceAdd]
              generalize vs 0 = z0
              generalize vs 1 = z1
              generalize vs 2 = z2
              generalize vs 3 = z3
              generalize vs 4 = z4
              generalize vs 5 = z5
              generalize vs 6 = z6
              generalize vs 7 = z7
              generalize vs 8 = z8
              generalize vs 9 = z9
              generalize vs 10 = z10
              simp only [f11, Act.put, List.setIfInBounds_toArray, List.set_cons_succ, List.set_cons_zero]
              have HREL := Lib.hid (show JSplRel b ns nn w1.heap.size w w1 v3 (.int .i64 ((k + 1 : Nat) : Int)) W1 from ⟨k + 1, rest.drop N, o.set k t, by omega, rfl, HI3.out, HDL.out, by rw [List.length_set]; exact HOL.out, HP2.out, by rw [← HNEW.out]; exact f10, HBR.out.trans (hb1.1)⟩)
              clear f10 f11 hb1
              go_wp2
              go_roundw
              case rel => exact HREL.out
              case measure => simp [intOf]; omega
      · obtain rfl : k = nn := by omega
        have hlti : ¬ (k : Int) < (k : Int) := by omega
        have hend := HPK.out
        rw [List.drop_of_length_le (by have := HNL.out; omega), jpieces_end, HRL.out, List.take_of_length_le (by rw [HOL.out]; exact Nat.le_refl _)] at hend
        by_cases h0 : rl = 0
        · subst h0
          rw [if_neg (by omega)] at hend
          have HE := Lib.hid (show jpieces b ns = some o by rw [hend]; simp)
          have HOW := Lib.hid (show OwnV Value.string 9 w o (.slice (some ⟨w1.heap.size, 0, none⟩) k k) wr from ⟨k, own_of_row hr (by rw [List.length_map]; exact HOL.out) HB1.out.size (by omega)⟩)
          clear hr hbr hend hR hLI
          go_wp2
          go_ret2
          show RetTB w (jpieces b ns) _ _
          rw [HE.out]
          exact ⟨_, rfl, fun l h => by injection h with h; rw [← h]; exact HOW.out, HB.out⟩
        · rw [if_pos (by omega)] at hend
          have HE := Lib.hid (show jpieces b ns = none by rw [hend]; rfl)
          have d5 : ((rl : Int) == 0) = false := by simpa using h0
          clear hr hbr hend hR hLI h0
          go_wp2
          go_ret2
          show RetTB w (jpieces b ns) _ _
          rw [HE.out]
          exact RetTB.none _ HB.out
end Go.Proofs.YtblpkmmhmdpkjaaGreatDoor

/- texts' own contracts: taken, Take. Written by gen_jis.py. -/





namespace Go.Proofs.YtblpkmmhmdpkjaaGreatDoor

open Go.RowKit

def jdictO (o : Option (List ByteArray)) (places : List UInt8) (many : Int) : Option (List ByteArray) := match o with
  | none => none
  | some ws => if jrise ws = true then jchoose ws (jnums places many) else none
/-- What taken answers. -/
def jtakenE (c : JC) : Option (List ByteArray) :=
  if c.enc = 1 ∧ c.streams.map (·.1) = [2, 3] then jcut (c.streams.getD 0 (0, [])).2 (c.streams.getD 1 (0, [])).2 c.many
  else if c.enc = 2 ∧ c.streams.map (·.1) = [2, 3, 4] then jdictO (jcut (c.streams.getD 2 (0, [])).2 (c.streams.getD 1 (0, [])).2 c.texts) (c.streams.getD 0 (0, [])).2 c.many
  else none
def jansE (o : Option (List ByteArray)) : List ByteArray × Int := match o with
  | none => ([], 2)
  | some l => (l, 0)
theorem jcut_far {b l : List UInt8} {many : Int} (h : many < 0 ∨ 4096 < many) : jcut b l many = none := by
  unfold jcut utakeE
  rw [if_pos h, if_pos (.inl (by decide))]
theorem jdict_ans {places : List UInt8} {many : Int} {ns : List Int} {q : List UInt8} {y : Int} (hu : utakeE places many false = (ns, q, y)) (o : Option (List ByteArray)) :
    (if y ≠ 0 ∨ 0 < q.length then ([], 2) else jdict ns o) = jansE (jdictO o places many) := by
  have hn : jnums places many = if y ≠ 0 ∨ 0 < q.length then none else some ns := by unfold jnums; rw [hu]
  cases o with
  | none =>
    show _ = jansE none
    split <;> rfl
  | some ws =>
    unfold jdictO jdict
    dsimp only
    by_cases hr : jrise ws = true
    · have hr2 := hr
      unfold jrise at hr2
      rw [if_pos hr, hn, if_pos hr2]
      split
      · rfl
      · show _ = jansE (jpick ws ns)
        cases jpick ws ns <;> rfl
    · have hr2 := hr
      unfold jrise at hr2
      rw [if_neg hr, if_neg hr2]
      split <;> rfl
theorem jtake_taken {c : JC} (h : ¬ (c.many < 0 ∨ 4096 < c.many)) : jtakeE c = jansE (jtakenE c) := by
  unfold jtakenE
  by_cases h1 : c.enc = 1 ∧ c.streams.map (·.1) = [2, 3]
  · rw [jtakeE_plain h h1.1 h1.2, if_pos h1]
    rfl
  rw [if_neg h1]
  by_cases h2 : c.enc = 2 ∧ c.streams.map (·.1) = [2, 3, 4]
  · rw [if_pos h2]
    by_cases h3 : c.texts < 0 ∨ 4096 < c.texts
    · rw [jtakeE_kind h h1 (.inr (.inr h3)), jcut_far h3]
      rfl
    · obtain ⟨ns, q, y, hu⟩ : ∃ ns q y, utakeE (c.streams.getD 0 (0, [])).2 c.many false = (ns, q, y) := ⟨_, _, _, rfl⟩
      rw [jtakeE_dict h h2.1 h2.2 h3 hu]
      exact jdict_ans hu _
  · rw [if_neg h2]
    refine jtakeE_kind h h1 ?_
    by_cases h4 : c.enc = 2
    · exact .inr (.inl fun h5 => h2 ⟨h4, h5⟩)
    · exact .inl h4
def Fact.textb (w0 : World) (o : Option (List ByteArray)) : Fact := ⟨fun v w => ∃ u, v = .tuple #[u, .bool o.isSome] ∧ ∀ l, o = some l → OwnV Value.string 9 w0 l u w, fun _ _ _ ⟨u, h1, h2⟩ hb => ⟨u, h1, fun l h => (h2 l h).below hb⟩⟩
def Fact.textv (w0 : World) (o : Option (List ByteArray)) : Fact := ⟨fun v w => ∀ l, o = some l → OwnV Value.string 9 w0 l v w, fun _ _ _ h2 hb l h => (h2 l h).below hb⟩
set_option maxHeartbeats 8000000 in
set_option maxRecDepth 100000 in
theorem jtaken_any (c : JC) (v : Value) (w : World) (ht : WTab w) (hv : IsCol c v w) (hb : c.streams.length ≤ 1000000) (hbb : ∀ p ∈ c.streams, p.2.length ≤ 1000000) :
    Calls Tryz.prog 28 #[v] w (RetTB w (jtakenE c)) := by
  obtain ⟨L, sv, rfl, hL, hLb, hLs⟩ := hv
  obtain ⟨A, n, ca, rfl⟩ := hL.shape
  obtain ⟨cm, ce, ct, cs⟩ := c
  dsimp only at hLs hb hbb
  subst hLs
  unfold colv
  dsimp only
  obtain ⟨C, hC⟩ : ∃ C : JC, C = ⟨cm, ce, ct, L.map (fun p => (p.1, p.2.1))⟩ := ⟨_, rfl⟩
  rw [← hC]
  have hks : C.streams.map (·.1) = L.map (·.1) := by rw [hC, List.map_map]; rfl
  have hlen : L.length ≤ 1000000 := by rw [List.length_map] at hb; exact hb
  have hbl : ∀ p ∈ L, p.2.1.length ≤ 1000000 := fun p hp => hbb (p.1, p.2.1) (List.mem_map.2 ⟨p, hp, rfl⟩)
  have h0 := heap_alloc_new w (.cells #[.int .i64 cm, .int .i64 ce, .int .i64 ct, .slice A n ca] 27)
  have hR0 : Row (w.alloc (.cells #[.int .i64 cm, .int .i64 ce, .int .i64 ct, .slice A n ca] 27)) w.heap.size 27 [.int .i64 cm, .int .i64 ce, .int .i64 ct, .slice A n ca] := h0
  have hb0 : Below w.heap.size w (w.alloc (.cells #[.int .i64 cm, .int .i64 ce, .int .i64 ct, .slice A n ca] 27)) := (Below.refl _ _).alloc (Nat.le_refl _) _
  have a0 := hR0.cell 0
  have a1 := hR0.cell 1
  have a2 := hR0.cell 2
  have a3 := hR0.cell 3
  simp only [List.getElem?_cons_zero, List.getElem?_cons_succ] at a0 a1 a2 a3
  obtain ⟨w0, hw0⟩ : ∃ w0, w0 = w.alloc (.cells #[.int .i64 cm, .int .i64 ce, .int .i64 ct, .slice A n ca] 27) := ⟨_, rfl⟩
  have hz0 : w0.heap.size = w.heap.size + 1 := by rw [hw0]; simp
  rw [← hw0] at hR0 hb0
  have HR0 := Lib.hid hR0
  have HB0 := Lib.hid hb0
  have HZ0 := Lib.hid hz0
  have HT := Lib.hid ht
  have HL0 := Lib.hid (hL.below hb0)
  have HLB := Lib.hid (show ∀ p ∈ L, IsB p.2.1 p.2.2 w0 from fun p hp => (hLb p hp).below hb0)
  have HLW := Lib.hid hLb
  have HLN := Lib.hid hL.parts.1
  have HBL := Lib.hid hbl
  have HC := Lib.hid hC
  have HKS := Lib.hid hks
  have hn6 : n ≤ 1000000 := by rw [← hL.parts.1]; exact hlen
  have HLE := Lib.hid hlen
  clear hL hLb hb hbb hR0 hb0 hz0 h0 hbl hC hks hlen ht
  by_cases he1 : ce = 1
  case pos =>
    subst he1
    have e0 : ((1 : Int) == 1) = true := by decide
    have e3 : ((1 : Int) == 2) = false := by decide
    have HK1 := Lib.hid (jjust_any L [2, 3] (.slice A n ca) (.slice (some ⟨w0.heap.size, 0, none⟩) 2 2) (w0.alloc (.cells #[.int .i64 2, .int .i64 3] 3)) (HL0.out.below ((Below.refl _ _).alloc (Nat.le_refl _) _)) (isV_new iv w0 3 [2, 3] 2 rfl (by omega)) HLE.out (fun p hp => (HLB.out p hp).below ((Below.refl _ _).alloc (Nat.le_refl _) _)))
    rw [HZ0.out] at HK1
    obtain ⟨k1, hk1⟩ : ∃ k1, k1 = (L.map (·.1) == [2, 3]) := ⟨_, rfl⟩
    rw [← hk1] at HK1
    have HKK1 := Lib.hid hk1
    clear hk1
    go_enter Tryz.func28, Tryz.ntmps28
    go_wp2_with fail
    rw [← hw0]
    refine HK1.out.mono ?_
    rintro e w1 ⟨rfl, hb1⟩
    have HB01 := Lib.hid (below_then ((Below.refl w0.heap.size w0).alloc (Nat.le_refl _) (.cells #[.int .i64 2, .int .i64 3] 3)) hb1)
    have HB1 := Lib.hid (below_then HB0.out HB01.out)
    have HR1 := Lib.hid (HR0.out.below HB01.out HR0.out.lt)
    have b1' := HR1.out.cell 1
    simp only [List.getElem?_cons_zero, List.getElem?_cons_succ] at b1'
    clear hb1 hw0 a0 a1 a2 a3
    cases k1 with
    | false =>
      have hE := Lib.hid (show jtakenE C = none by
        unfold jtakenE
        rw [if_neg, if_neg]
        · rw [HC.out]; rintro ⟨h, _⟩; cases h
        · rw [HKS.out]; rintro ⟨_, h⟩; have h2 := HKK1.out; rw [h] at h2; cases h2)
      go_wp2
      go_ret2
      rw [hE.out]
      exact RetTB.none _ HB1.out
    | true =>
      have hmk : L.map (·.1) = [2, 3] := by have h := HKK1.out; simpa using h.symm
      obtain ⟨b0, v0, b1, v1, hLL⟩ := map_two hmk
      have hE2 : jtakenE C = jcut b0 b1 cm := by
        unfold jtakenE
        rw [if_pos ⟨by rw [HC.out], by rw [HKS.out]; exact hmk⟩, HC.out, hLL]
        rfl
      have HE := Lib.hid hE2
      subst hLL
      obtain rfl : n = 2 := HLN.out.symm
      have HL1 := Lib.hid (HL0.out.below HB01.out)
      obtain ⟨ad, hAd, hadl, hc0⟩ := HL1.out.at (m := 2) (fun _ => rfl) (by omega) (k := 0) (by simp)
      obtain ⟨ad', hAd', _, hc1⟩ := HL1.out.at (m := 2) (fun _ => rfl) (by omega) (k := 1) (by simp)
      subst hAd
      injection hAd' with hAd'
      subst hAd'
      have HAB := Lib.hid hadl
      have HC0 := Lib.hid (show w1.cell? (ad.add (0 * 2 + 1)) = some v0 from hc0 1 (by omega))
      have HC1 := Lib.hid (show w1.cell? (ad.add (1 * 2 + 1)) = some v1 from hc1 1 (by omega))
      have HCUT := Lib.hid (fun (X : World) (h : Below w.heap.size w X) => (show Calls Tryz.prog 43 #[v0, v1, .int .i64 cm] X (fun e w' => ∃ x, e = .returned x ∧ (∃ y, x = .tuple #[y, .bool (jcut b0 b1 cm).isSome] ∧ ∀ l, jcut b0 b1 cm = some l → OwnV Value.string 9 w l y w') ∧ Below X.heap.size X w') from (jsplit_any b0 b1 cm v0 v1 X (HT.out.below h HT.out.lt) ((HLW.out _ List.mem_cons_self).below h) ((HLW.out _ (List.mem_cons_of_mem _ List.mem_cons_self)).below h) (HBL.out _ List.mem_cons_self) (HBL.out _ (List.mem_cons_of_mem _ List.mem_cons_self))).mono fun e w' ⟨u, h3, h4, h5⟩ => ⟨_, h3, ⟨u, rfl, fun l hl => (h4 l hl).base h.size⟩, h5⟩))
      clear hE2 hmk hadl hc0 hc1
      go_wp2_with fail
      refine wp_region_list [.is (.pointer (some ⟨w.heap.size, 3, none⟩)), .is (.slice (some ad) 2 ca), .is (.pointer (some (ad.add (0 * 2)))), .is (.pointer (some ((ad.add (0 * 2)).add 1))), .is (v0), .is (.pointer (some ⟨w.heap.size, 3, none⟩)), .is (.slice (some ad) 2 ca), .is (.pointer (some (ad.add (1 * 2)))), .is (.pointer (some ((ad.add (1 * 2)).add 1))), .is (v1), .is (.pointer (some ⟨w.heap.size, 0, none⟩)), .is (.int .i64 cm), .textb w (jcut b0 b1 cm), .textv w (jcut b0 b1 cm), .is (.bool (jcut b0 b1 cm).isSome), .textv w (jcut b0 b1 cm), .is (.bool (jcut b0 b1 cm).isSome)] [some 16, some 17, some 18, some 19, some 20, some 21, some 22, some 23, some 24, some 25, some 26, some 27, some 28, some 29, some 30, some 2, some 3] (by kernel_rfl) (by kernel_rfl) (by kernel_rfl) rfl ⟨?_, ?_, ?_, ?_, ?_, ?_, ?_, ?_, ?_, ?_, ?_, ?_, ?_, ?_, ?_, ?_, ?_, trivial⟩ ?_
      · intro ρ W1 hb1 H
        exact gives_field rfl (H.old 1 _ (by kernel_rfl) rfl) (fun W => col_at3 W _) ⟨rfl, Below.refl _ _⟩
      · intro ρ W1 hb1 H
        exact gives_load rfl (H.new 16 0 (by kernel_rfl)) Tryz.underlying25 rfl ((HR1.out.below hb1 HR1.out.lt).cell 3) ⟨rfl, Below.refl _ _⟩
      · intro ρ W1 hb1 H
        exact gives_index_wide (k := 0) Tryz.underlying25 str_size rfl (H.new 17 1 (by kernel_rfl)) (H.const _) (by decide) ⟨rfl, Below.refl _ _⟩
      · intro ρ W1 hb1 H
        exact gives_field rfl (H.new 18 2 (by kernel_rfl)) (fun W => str_at1 W _) ⟨rfl, Below.refl _ _⟩
      · intro ρ W1 hb1 H
        exact gives_load rfl (H.new 19 3 (by kernel_rfl)) Tryz.underlying38 rfl (by rw [add_add]; exact (hb1.cell (by rw [add_block]; exact HAB.out)).trans HC0.out) ⟨rfl, Below.refl _ _⟩
      · intro ρ W1 hb1 H
        exact gives_field rfl (H.old 1 _ (by kernel_rfl) rfl) (fun W => col_at3 W _) ⟨rfl, Below.refl _ _⟩
      · intro ρ W1 hb1 H
        exact gives_load rfl (H.new 21 5 (by kernel_rfl)) Tryz.underlying25 rfl ((HR1.out.below hb1 HR1.out.lt).cell 3) ⟨rfl, Below.refl _ _⟩
      · intro ρ W1 hb1 H
        exact gives_index_wide (k := 1) Tryz.underlying25 str_size rfl (H.new 22 6 (by kernel_rfl)) (H.const _) (by decide) ⟨rfl, Below.refl _ _⟩
      · intro ρ W1 hb1 H
        exact gives_field rfl (H.new 23 7 (by kernel_rfl)) (fun W => str_at1 W _) ⟨rfl, Below.refl _ _⟩
      · intro ρ W1 hb1 H
        exact gives_load rfl (H.new 24 8 (by kernel_rfl)) Tryz.underlying38 rfl (by rw [add_add]; exact (hb1.cell (by rw [add_block]; exact HAB.out)).trans HC1.out) ⟨rfl, Below.refl _ _⟩
      · intro ρ W1 hb1 H
        exact gives_field rfl (H.old 1 _ (by kernel_rfl) rfl) (fun W => col_at0 W _) ⟨rfl, Below.refl _ _⟩
      · intro ρ W1 hb1 H
        exact gives_load rfl (H.new 26 10 (by kernel_rfl)) Tryz.underlying3 rfl ((HR1.out.below hb1 HR1.out.lt).cell 0) ⟨rfl, Below.refl _ _⟩
      · intro ρ W1 hb1 H
        have e0 : ρ (.tmp 20) = v0 := H.new 20 4 (by kernel_rfl)
        have e1 : ρ (.tmp 25) = v1 := H.new 25 9 (by kernel_rfl)
        have e2 : ρ (.tmp 27) = .int .i64 cm := H.new 27 11 (by kernel_rfl)
        refine gives_call rfl (fun _ _ => by kernel_rfl) (H.func _) (args := #[v0, v1, .int .i64 cm]) (by simp [e0, e1, e2]) ?_
        exact (HCUT.out W1 (HB1.out.trans (hb1.mono HB1.out.size)))
      · intro ρ W1 hb1 H
        have hx : ∃ u, ρ (.tmp 28) = .tuple #[u, .bool (jcut b0 b1 cm).isSome] ∧ ∀ l, (jcut b0 b1 cm) = some l → OwnV Value.string 9 w l u W1 := H.new 28 12 (by kernel_rfl)
        obtain ⟨u, h1, h2⟩ := hx
        exact gives_extract rfl h1 rfl ⟨h2, Below.refl _ _⟩
      · intro ρ W1 hb1 H
        have hx : ∃ u, ρ (.tmp 28) = .tuple #[u, .bool (jcut b0 b1 cm).isSome] ∧ ∀ l, (jcut b0 b1 cm) = some l → OwnV Value.string 9 w l u W1 := H.new 28 12 (by kernel_rfl)
        obtain ⟨u, h1, h2⟩ := hx
        exact gives_extract rfl h1 rfl ⟨rfl, Below.refl _ _⟩
      · intro ρ W1 hb1 H
        exact gives_assign rfl rfl ⟨H.new 29 13 (by kernel_rfl), Below.refl _ _⟩
      · intro ρ W1 hb1 H
        exact gives_assign rfl (H.new 30 14 (by kernel_rfl)) ⟨rfl, Below.refl _ _⟩
      · intro vs W1 hb1 hfs
        have f15 : ∀ l, (jcut b0 b1 cm) = some l → OwnV Value.string 9 w l (vs 15) W1 := hfs 15 (by decide)
        have f16 : vs 16 = .bool (jcut b0 b1 cm).isSome := hfs 16 (by decide)
        clear hfs
        simp only [putAll, Nat.zero_add, Nat.reduceAdd]
        generalize vs 0 = z0
        generalize vs 1 = z1
        generalize vs 2 = z2
        generalize vs 3 = z3
        generalize vs 4 = z4
        generalize vs 5 = z5
        generalize vs 6 = z6
        generalize vs 7 = z7
        generalize vs 8 = z8
        generalize vs 9 = z9
        generalize vs 10 = z10
        generalize vs 11 = z11
        generalize vs 12 = z12
        generalize vs 13 = z13
        generalize vs 14 = z14
        generalize vs 15 = z15 at f15 ⊢
        simp only [f16, Act.put, List.setIfInBounds_toArray, List.set_cons_succ, List.set_cons_zero]
        clear f16
        go_wp2
        go_ret2
        rw [HE.out]
        exact ⟨_, rfl, f15, below_then HB1.out hb1⟩
  have e0 : (ce == 1) = false := by simpa using he1
  by_cases he2 : ce = 2
  case neg =>
    have e3 : (ce == 2) = false := by simpa using he2
    have hE := Lib.hid (show jtakenE C = none by
      unfold jtakenE
      rw [if_neg, if_neg]
      · rw [HC.out]; exact fun h => he2 h.1
      · rw [HC.out]; exact fun h => he1 h.1)
    clear he1 he2
    go_enter Tryz.func28, Tryz.ntmps28
    go_wp2
    go_ret2
    rw [hE.out]
    rw [← hw0]
    exact RetTB.none _ HB0.out
  subst he2
  clear he1 e0
  have e0 : ((2 : Int) == 1) = false := by decide
  have e3 : ((2 : Int) == 2) = true := by decide
  have HK1 := Lib.hid (jjust_any L [2, 3, 4] (.slice A n ca) (.slice (some ⟨w0.heap.size, 0, none⟩) 3 3) (w0.alloc (.cells #[.int .i64 2, .int .i64 3, .int .i64 4] 3)) (HL0.out.below ((Below.refl _ _).alloc (Nat.le_refl _) _)) (isV_new iv w0 3 [2, 3, 4] 3 rfl (by omega)) HLE.out (fun p hp => (HLB.out p hp).below ((Below.refl _ _).alloc (Nat.le_refl _) _)))
  rw [HZ0.out] at HK1
  obtain ⟨k1, hk1⟩ : ∃ k1, k1 = (L.map (·.1) == [2, 3, 4]) := ⟨_, rfl⟩
  rw [← hk1] at HK1
  have HKK1 := Lib.hid hk1
  clear hk1
  go_enter Tryz.func28, Tryz.ntmps28
  go_wp2_with fail
  rw [← hw0]
  refine HK1.out.mono ?_
  rintro e w2 ⟨rfl, hb1⟩
  have HB01 := Lib.hid (below_then ((Below.refl w0.heap.size w0).alloc (Nat.le_refl _) (.cells #[.int .i64 2, .int .i64 3, .int .i64 4] 3)) hb1)
  have HB2 := Lib.hid (below_then HB0.out HB01.out)
  have HR2 := Lib.hid (HR0.out.below HB01.out HR0.out.lt)
  clear hb1 hw0 a0 a1 a2 a3
  cases k1 with
  | false =>
    have hE := Lib.hid (show jtakenE C = none by
      unfold jtakenE
      rw [if_neg, if_neg]
      · rw [HKS.out]; rintro ⟨_, h⟩; have h2 := HKK1.out; rw [h] at h2; cases h2
      · rw [HC.out]; rintro ⟨h, _⟩; cases h)
    go_wp2
    go_ret2
    rw [hE.out]
    exact RetTB.none _ HB2.out
  | true =>
    have hmk : L.map (·.1) = [2, 3, 4] := by have h := HKK1.out; simpa using h.symm
    obtain ⟨b0, v0, b1, v1, b2, v2, hLL⟩ := map_three hmk
    have hE2 : jtakenE C = jdictO (jcut b2 b1 ct) b0 cm := by
      unfold jtakenE
      rw [if_neg (by rw [HC.out]; rintro ⟨h, _⟩; cases h), if_pos ⟨by rw [HC.out], by rw [HKS.out]; exact hmk⟩, HC.out, hLL]
      rfl
    have HE := Lib.hid hE2
    subst hLL
    obtain rfl : n = 3 := HLN.out.symm
    have HL2 := Lib.hid (HL0.out.below HB01.out)
    obtain ⟨ad, hAd, hadl, hc0⟩ := HL2.out.at (m := 2) (fun _ => rfl) (by omega) (k := 0) (by simp)
    obtain ⟨ad', hAd', _, hc1⟩ := HL2.out.at (m := 2) (fun _ => rfl) (by omega) (k := 1) (by simp)
    obtain ⟨ad2, hAd2, _, hc2⟩ := HL2.out.at (m := 2) (fun _ => rfl) (by omega) (k := 2) (by simp)
    subst hAd
    injection hAd' with hAd'
    subst hAd'
    injection hAd2 with hAd2
    subst hAd2
    have HAB2 := Lib.hid hadl
    have HC02 := Lib.hid (show w2.cell? (ad.add (0 * 2 + 1)) = some v0 from hc0 1 (by omega))
    have HC12 := Lib.hid (show w2.cell? (ad.add (1 * 2 + 1)) = some v1 from hc1 1 (by omega))
    have HC22 := Lib.hid (show w2.cell? (ad.add (2 * 2 + 1)) = some v2 from hc2 1 (by omega))
    have hm1 : ((3 : Int), b1, v1) ∈ [((2 : Int), b0, v0), (3, b1, v1), (4, b2, v2)] := List.mem_cons_of_mem _ List.mem_cons_self
    have hm2 : ((4 : Int), b2, v2) ∈ [((2 : Int), b0, v0), (3, b1, v1), (4, b2, v2)] := List.mem_cons_of_mem _ (List.mem_cons_of_mem _ List.mem_cons_self)
    have HCUT := Lib.hid (fun (X : World) (h : Below w.heap.size w X) => (show Calls Tryz.prog 43 #[v2, v1, .int .i64 ct] X (fun e w' => ∃ x, e = .returned x ∧ (∃ y, x = .tuple #[y, .bool (jcut b2 b1 ct).isSome] ∧ ∀ l, jcut b2 b1 ct = some l → OwnV Value.string 9 w l y w') ∧ Below X.heap.size X w') from (jsplit_any b2 b1 ct v2 v1 X (HT.out.below h HT.out.lt) ((HLW.out _ hm2).below h) ((HLW.out _ hm1).below h) (HBL.out _ hm2) (HBL.out _ hm1)).mono fun e w' ⟨u, h3, h4, h5⟩ => ⟨_, h3, ⟨u, rfl, fun l hl => (h4 l hl).base h.size⟩, h5⟩))
    have HV0 := Lib.hid (fun (X : World) (h : Below w.heap.size w X) => (HLW.out _ (List.mem_cons_self)).below h)
    clear hE2 hmk hadl hc0 hc1 hc2 hm1 hm2
    go_wp2_with fail
    refine wp_region_list [.is (.pointer (some ⟨w.heap.size, 3, none⟩)), .is (.slice (some ad) 3 ca), .is (.pointer (some (ad.add (2 * 2)))), .is (.pointer (some ((ad.add (2 * 2)).add 1))), .is (v2), .is (.pointer (some ⟨w.heap.size, 3, none⟩)), .is (.slice (some ad) 3 ca), .is (.pointer (some (ad.add (1 * 2)))), .is (.pointer (some ((ad.add (1 * 2)).add 1))), .is (v1), .is (.pointer (some ⟨w.heap.size, 2, none⟩)), .is (.int .i64 ct), .textb w (jcut b2 b1 ct), .textb w (jcut b2 b1 ct), .textv w (jcut b2 b1 ct), .is (.bool (jcut b2 b1 ct).isSome), .textv w (jcut b2 b1 ct), .is (.bool (jcut b2 b1 ct).isSome)] [some 42, some 43, some 44, some 45, some 46, some 47, some 48, some 49, some 50, some 51, some 52, some 53, some 54, some 41, some 55, some 56, some 4, some 5] (by kernel_rfl) (by kernel_rfl) (by kernel_rfl) rfl ⟨?_, ?_, ?_, ?_, ?_, ?_, ?_, ?_, ?_, ?_, ?_, ?_, ?_, ?_, ?_, ?_, ?_, ?_, trivial⟩ ?_
    · intro ρ W1 hb1 H
      exact gives_field rfl (H.old 1 _ (by kernel_rfl) rfl) (fun W => col_at3 W _) ⟨rfl, Below.refl _ _⟩
    · intro ρ W1 hb1 H
      exact gives_load rfl (H.new 42 0 (by kernel_rfl)) Tryz.underlying25 rfl ((HR2.out.below hb1 HR2.out.lt).cell 3) ⟨rfl, Below.refl _ _⟩
    · intro ρ W1 hb1 H
      exact gives_index_wide (k := 2) Tryz.underlying25 str_size rfl (H.new 43 1 (by kernel_rfl)) (H.const _) (by decide) ⟨rfl, Below.refl _ _⟩
    · intro ρ W1 hb1 H
      exact gives_field rfl (H.new 44 2 (by kernel_rfl)) (fun W => str_at1 W _) ⟨rfl, Below.refl _ _⟩
    · intro ρ W1 hb1 H
      exact gives_load rfl (H.new 45 3 (by kernel_rfl)) Tryz.underlying38 rfl (by rw [add_add]; exact (hb1.cell (by rw [add_block]; exact HAB2.out)).trans HC22.out) ⟨rfl, Below.refl _ _⟩
    · intro ρ W1 hb1 H
      exact gives_field rfl (H.old 1 _ (by kernel_rfl) rfl) (fun W => col_at3 W _) ⟨rfl, Below.refl _ _⟩
    · intro ρ W1 hb1 H
      exact gives_load rfl (H.new 47 5 (by kernel_rfl)) Tryz.underlying25 rfl ((HR2.out.below hb1 HR2.out.lt).cell 3) ⟨rfl, Below.refl _ _⟩
    · intro ρ W1 hb1 H
      exact gives_index_wide (k := 1) Tryz.underlying25 str_size rfl (H.new 48 6 (by kernel_rfl)) (H.const _) (by decide) ⟨rfl, Below.refl _ _⟩
    · intro ρ W1 hb1 H
      exact gives_field rfl (H.new 49 7 (by kernel_rfl)) (fun W => str_at1 W _) ⟨rfl, Below.refl _ _⟩
    · intro ρ W1 hb1 H
      exact gives_load rfl (H.new 50 8 (by kernel_rfl)) Tryz.underlying38 rfl (by rw [add_add]; exact (hb1.cell (by rw [add_block]; exact HAB2.out)).trans HC12.out) ⟨rfl, Below.refl _ _⟩
    · intro ρ W1 hb1 H
      exact gives_field rfl (H.old 1 _ (by kernel_rfl) rfl) (fun W => col_at2 W _) ⟨rfl, Below.refl _ _⟩
    · intro ρ W1 hb1 H
      exact gives_load rfl (H.new 52 10 (by kernel_rfl)) Tryz.underlying3 rfl ((HR2.out.below hb1 HR2.out.lt).cell 2) ⟨rfl, Below.refl _ _⟩
    · intro ρ W1 hb1 H
      have e0 : ρ (.tmp 46) = v2 := H.new 46 4 (by kernel_rfl)
      have e1 : ρ (.tmp 51) = v1 := H.new 51 9 (by kernel_rfl)
      have e2 : ρ (.tmp 53) = .int .i64 ct := H.new 53 11 (by kernel_rfl)
      refine gives_call rfl (fun _ _ => by kernel_rfl) (H.func _) (args := #[v2, v1, .int .i64 ct]) (by simp [e0, e1, e2]) ?_
      exact (HCUT.out W1 (HB2.out.trans (hb1.mono HB2.out.size)))
    · intro ρ W1 hb1 H
      exact gives_move rfl rfl ⟨H.new 54 12 (by kernel_rfl), Below.refl _ _⟩
    · intro ρ W1 hb1 H
      have hx : ∃ u, ρ (.tmp 41) = .tuple #[u, .bool (jcut b2 b1 ct).isSome] ∧ ∀ l, (jcut b2 b1 ct) = some l → OwnV Value.string 9 w l u W1 := H.new 41 13 (by kernel_rfl)
      obtain ⟨u, h1, h2⟩ := hx
      exact gives_extract rfl h1 rfl ⟨h2, Below.refl _ _⟩
    · intro ρ W1 hb1 H
      have hx : ∃ u, ρ (.tmp 41) = .tuple #[u, .bool (jcut b2 b1 ct).isSome] ∧ ∀ l, (jcut b2 b1 ct) = some l → OwnV Value.string 9 w l u W1 := H.new 41 13 (by kernel_rfl)
      obtain ⟨u, h1, h2⟩ := hx
      exact gives_extract rfl h1 rfl ⟨rfl, Below.refl _ _⟩
    · intro ρ W1 hb1 H
      exact gives_assign rfl rfl ⟨H.new 55 14 (by kernel_rfl), Below.refl _ _⟩
    · intro ρ W1 hb1 H
      exact gives_assign rfl (H.new 56 15 (by kernel_rfl)) ⟨rfl, Below.refl _ _⟩
    · intro vs W1 hb1 hfs
      have f16 : ∀ l, (jcut b2 b1 ct) = some l → OwnV Value.string 9 w l (vs 16) W1 := hfs 16 (by decide)
      have f17 : vs 17 = .bool (jcut b2 b1 ct).isSome := hfs 17 (by decide)
      clear hfs
      simp only [putAll, Nat.zero_add, Nat.reduceAdd]
      generalize vs 0 = z0
      generalize vs 1 = z1
      generalize vs 2 = z2
      generalize vs 3 = z3
      generalize vs 4 = z4
      generalize vs 5 = z5
      generalize vs 6 = z6
      generalize vs 7 = z7
      generalize vs 8 = z8
      generalize vs 9 = z9
      generalize vs 10 = z10
      generalize vs 11 = z11
      generalize vs 12 = z12
      generalize vs 13 = z13
      generalize vs 14 = z14
      generalize vs 15 = z15
      generalize vs 16 = z16 at f16 ⊢
      simp only [f17, Act.put, List.setIfInBounds_toArray, List.set_cons_succ, List.set_cons_zero]
      clear f17
      have HB3 := Lib.hid (below_then HB2.out hb1)
      have HWO := Lib.hid f16
      have HB23 := Lib.hid hb1
      have HR3 := Lib.hid (HR2.out.below hb1 HR2.out.lt)
      obtain ⟨w3, hw3⟩ : ∃ w3, w3 = W1 := ⟨_, rfl⟩
      rw [← hw3] at HB3 HWO HB23 HR3 ⊢
      clear hw3 hb1 f16 W1
      cases hcut : jcut b2 b1 ct with
      | none =>
        have HE2 := Lib.hid (show jtakenE C = none by rw [HE.out, hcut]; rfl)
        clear hcut
        dsimp only [Option.isSome]
        go_wp2
        go_ret2
        rw [HE2.out]
        exact RetTB.none _ HB3.out
      | some ws =>
        have HW := Lib.hid (HWO.out ws hcut)
        have hlw : ws.length ≤ 4096 := by
          by_cases h3 : ct < 0 ∨ 4096 < ct
          · rw [jcut_far h3] at hcut; cases hcut
          · obtain ⟨T, rfl⟩ := Int.eq_ofNat_of_zero_le (show 0 ≤ ct by omega)
            have := jcut_many hcut
            omega
        have HLW4 := Lib.hid hlw
        obtain ⟨Bw, wn, wc, hsv⟩ := HW.out.isV.shape
        rw [hsv] at HW ⊢
        have HRI := Lib.hid (jrise_any ws _ w3 HW.out.isV (by omega))
        have HE2 := Lib.hid (show jtakenE C = if jrise ws = true then jchoose ws (jnums b0 cm) else none by rw [HE.out, hcut]; rfl)
        obtain ⟨q, hq⟩ : ∃ q, q = jrise ws := ⟨_, rfl⟩
        rw [← hq] at HRI HE2
        clear hcut hlw hsv hq HWO
        dsimp only [Option.isSome]
        go_wp2_with fail
        refine HRI.out.mono ?_
        rintro e w4 ⟨rfl, hb4⟩
        have HB4 := Lib.hid (below_then HB3.out hb4)
        have HB24 := Lib.hid (below_then HB23.out hb4)
        have HR4 := Lib.hid (HR3.out.below hb4 HR3.out.lt)
        have HW4 := Lib.hid (HW.out.below hb4)
        have HAB4 := Lib.hid (Nat.lt_of_lt_of_le HAB2.out HB24.out.size)
        have HC04 := Lib.hid ((HB24.out.cell (p := ad.add (0 * 2 + 1)) (by rw [add_block]; exact HAB2.out)).trans HC02.out)
        clear hb4
        cases q with
        | false =>
          go_wp2
          go_ret2
          rw [HE2.out]
          exact RetTB.none _ HB4.out
        | true =>
          have HCH := Lib.hid (fun (X : World) (h : Below w4.heap.size w4 X) => (show Calls Tryz.prog 45 #[.slice Bw wn wc, v0, .int .i64 cm] X (fun e w' => ∃ x, e = .returned x ∧ (∃ y, x = .tuple #[y, .bool (jchoose ws (jnums b0 cm)).isSome] ∧ ∀ l, jchoose ws (jnums b0 cm) = some l → OwnV Value.string 9 w l y w') ∧ Below X.heap.size X w') from (jchosen_any ws b0 _ v0 cm X (HT.out.below (below_then HB4.out h) HT.out.lt) (HW4.out.below h).isV (HV0.out X (below_then HB4.out h)) (by have := HLW4.out; omega) (HBL.out _ List.mem_cons_self)).mono fun e w' ⟨u, h3, h4, h5⟩ => ⟨_, h3, ⟨u, rfl, fun l hl => (h4 l hl).base (below_then HB4.out h).size⟩, h5⟩))
          go_wp2_with fail
          refine wp_region_list [.is (.slice Bw wn wc), .is (.pointer (some ⟨w.heap.size, 3, none⟩)), .is (.slice (some ad) 3 ca), .is (.pointer (some (ad.add (0 * 2)))), .is (.pointer (some ((ad.add (0 * 2)).add 1))), .is (v0), .is (.pointer (some ⟨w.heap.size, 0, none⟩)), .is (.int .i64 cm), .textb w (jchoose ws (jnums b0 cm)), .textv w (jchoose ws (jnums b0 cm)), .is (.bool (jchoose ws (jnums b0 cm)).isSome), .textv w (jchoose ws (jnums b0 cm)), .is (.bool (jchoose ws (jnums b0 cm)).isSome)] [some 64, some 65, some 66, some 67, some 68, some 69, some 70, some 71, some 72, some 73, some 74, some 2, some 3] (by kernel_rfl) (by kernel_rfl) (by kernel_rfl) rfl ⟨?_, ?_, ?_, ?_, ?_, ?_, ?_, ?_, ?_, ?_, ?_, ?_, ?_, trivial⟩ ?_
          · intro ρ W1 hb1 H
            exact gives_move rfl (H.old 4 _ (by kernel_rfl) rfl) ⟨rfl, Below.refl _ _⟩
          · intro ρ W1 hb1 H
            exact gives_field rfl (H.old 1 _ (by kernel_rfl) rfl) (fun W => col_at3 W _) ⟨rfl, Below.refl _ _⟩
          · intro ρ W1 hb1 H
            exact gives_load rfl (H.new 65 1 (by kernel_rfl)) Tryz.underlying25 rfl ((HR4.out.below hb1 HR4.out.lt).cell 3) ⟨rfl, Below.refl _ _⟩
          · intro ρ W1 hb1 H
            exact gives_index_wide (k := 0) Tryz.underlying25 str_size rfl (H.new 66 2 (by kernel_rfl)) (H.const _) (by decide) ⟨rfl, Below.refl _ _⟩
          · intro ρ W1 hb1 H
            exact gives_field rfl (H.new 67 3 (by kernel_rfl)) (fun W => str_at1 W _) ⟨rfl, Below.refl _ _⟩
          · intro ρ W1 hb1 H
            exact gives_load rfl (H.new 68 4 (by kernel_rfl)) Tryz.underlying38 rfl (by rw [add_add]; exact (hb1.cell (by rw [add_block]; exact HAB4.out)).trans HC04.out) ⟨rfl, Below.refl _ _⟩
          · intro ρ W1 hb1 H
            exact gives_field rfl (H.old 1 _ (by kernel_rfl) rfl) (fun W => col_at0 W _) ⟨rfl, Below.refl _ _⟩
          · intro ρ W1 hb1 H
            exact gives_load rfl (H.new 70 6 (by kernel_rfl)) Tryz.underlying3 rfl ((HR4.out.below hb1 HR4.out.lt).cell 0) ⟨rfl, Below.refl _ _⟩
          · intro ρ W1 hb1 H
            have e0 : ρ (.tmp 64) = .slice Bw wn wc := H.new 64 0 (by kernel_rfl)
            have e1 : ρ (.tmp 69) = v0 := H.new 69 5 (by kernel_rfl)
            have e2 : ρ (.tmp 71) = .int .i64 cm := H.new 71 7 (by kernel_rfl)
            refine gives_call rfl (fun _ _ => by kernel_rfl) (H.func _) (args := #[.slice Bw wn wc, v0, .int .i64 cm]) (by simp [e0, e1, e2]) ?_
            exact (HCH.out W1 hb1)
          · intro ρ W1 hb1 H
            have hx : ∃ u, ρ (.tmp 72) = .tuple #[u, .bool (jchoose ws (jnums b0 cm)).isSome] ∧ ∀ l, (jchoose ws (jnums b0 cm)) = some l → OwnV Value.string 9 w l u W1 := H.new 72 8 (by kernel_rfl)
            obtain ⟨u, h1, h2⟩ := hx
            exact gives_extract rfl h1 rfl ⟨h2, Below.refl _ _⟩
          · intro ρ W1 hb1 H
            have hx : ∃ u, ρ (.tmp 72) = .tuple #[u, .bool (jchoose ws (jnums b0 cm)).isSome] ∧ ∀ l, (jchoose ws (jnums b0 cm)) = some l → OwnV Value.string 9 w l u W1 := H.new 72 8 (by kernel_rfl)
            obtain ⟨u, h1, h2⟩ := hx
            exact gives_extract rfl h1 rfl ⟨rfl, Below.refl _ _⟩
          · intro ρ W1 hb1 H
            exact gives_assign rfl rfl ⟨H.new 73 9 (by kernel_rfl), Below.refl _ _⟩
          · intro ρ W1 hb1 H
            exact gives_assign rfl (H.new 74 10 (by kernel_rfl)) ⟨rfl, Below.refl _ _⟩
          · intro vs W1 hb1 hfs
            have f11 : ∀ l, (jchoose ws (jnums b0 cm)) = some l → OwnV Value.string 9 w l (vs 11) W1 := hfs 11 (by decide)
            have f12 : vs 12 = .bool (jchoose ws (jnums b0 cm)).isSome := hfs 12 (by decide)
            clear hfs
            simp only [putAll, Nat.zero_add, Nat.reduceAdd]
            generalize vs 0 = z0
            generalize vs 1 = z1
            generalize vs 2 = z2
            generalize vs 3 = z3
            generalize vs 4 = z4
            generalize vs 5 = z5
            generalize vs 6 = z6
            generalize vs 7 = z7
            generalize vs 8 = z8
            generalize vs 9 = z9
            generalize vs 10 = z10
            generalize vs 11 = z11 at f11 ⊢
            simp only [f12, Act.put, List.setIfInBounds_toArray, List.set_cons_succ, List.set_cons_zero]
            clear f12
            go_wp2
            go_ret2
            rw [HE2.out]
            exact ⟨_, rfl, f11, below_then HB4.out hb1⟩
set_option maxHeartbeats 2000000 in
set_option maxRecDepth 100000 in
theorem jtake_own (c : JC) (v : Value) (w : World) (ht : WTab w) (hv : IsCol c v w) (hb : c.streams.length ≤ 1000000) (hbb : ∀ p ∈ c.streams, p.2.length ≤ 1000000) : Calls Tryz.prog 17 #[v] w (RetTE w (jtakeE c)) := by
  have HCOL := Lib.hid hv
  obtain ⟨L, sv, rfl, hL, _, _⟩ := hv
  obtain ⟨A, n, ca, rfl⟩ := hL.shape
  have hbA : Below w.heap.size w (w.alloc (.cells #[.int .i64 c.many, .int .i64 c.enc, .int .i64 c.texts, .slice A n ca] 27)) := (Below.refl _ _).alloc (Nat.le_refl _) _
  have hRA : Row (w.alloc (.cells #[.int .i64 c.many, .int .i64 c.enc, .int .i64 c.texts, .slice A n ca] 27)) w.heap.size 27 [.int .i64 c.many, .int .i64 c.enc, .int .i64 c.texts, .slice A n ca] := heap_alloc_new w _
  have a0 := hRA.cell 0
  have a1 := hRA.cell 1
  have a2 := hRA.cell 2
  have a3 := hRA.cell 3
  simp only [List.getElem?_cons_zero, List.getElem?_cons_succ] at a0 a1 a2 a3
  have HBA := Lib.hid hbA
  have HTK := Lib.hid (jtaken_any c _ _ (ht.below hbA ht.lt) (HCOL.out.below hbA) hb hbb)
  unfold colv at HTK ⊢
  have HJ := Lib.hid (fun h : ¬ (c.many < 0 ∨ 4096 < c.many) => jtake_taken h)
  obtain ⟨o, ho⟩ : ∃ o, o = jtakenE c := ⟨_, rfl⟩
  rw [← ho] at HTK HJ
  have HARG := Lib.hid (fun h : c.many < 0 ∨ 4096 < c.many => jtakeE_arg h)
  obtain ⟨p, hp⟩ : ∃ p, p = jtakeE c := ⟨_, rfl⟩
  rw [← hp] at HJ HARG ⊢
  clear ht hb hbb hL hbA ho hp HCOL
  obtain ⟨cm, hcm⟩ : ∃ cm, cm = c.many := ⟨_, rfl⟩
  by_cases hlo : c.many < 0
  case pos =>
    have hE := Lib.hid (HARG.out (.inl hlo))
    have d1 : decide (c.many < 0) = true := decide_eq_true hlo
    go_enter Tryz.func17, Tryz.ntmps17
    go_wp2
    go_ret2
    rw [hE.out]
    exact RetTE.nil _ HBA.out
  by_cases hhi : 4096 < c.many
  case pos =>
    have hE := Lib.hid (HARG.out (.inr hhi))
    have d1 : decide (c.many < 0) = false := decide_eq_false hlo
    have d2 : decide (4096 < c.many) = true := decide_eq_true hhi
    go_enter Tryz.func17, Tryz.ntmps17
    go_wp2
    go_ret2
    rw [hE.out]
    exact RetTE.nil _ HBA.out
  have hE := Lib.hid (HJ.out (by omega))
  have d1 : decide (c.many < 0) = false := decide_eq_false hlo
  have d2 : decide (4096 < c.many) = false := decide_eq_false hhi
  clear hlo hhi
  go_enter Tryz.func17, Tryz.ntmps17
  go_wp2_with fail
  refine HTK.out.mono ?_
  rintro e w1 ⟨u, rfl, hu, hb1⟩
  have HU := Lib.hid hu
  have HB1 := Lib.hid (below_then HBA.out hb1)
  clear hu hb1
  cases o with
  | none =>
    dsimp only [Option.isSome]
    go_wp2
    go_ret2
    rw [hE.out]
    exact RetTE.nil _ HB1.out
  | some l =>
    have HO := Lib.hid ((HU.out l rfl).base HBA.out.size)
    dsimp only [Option.isSome]
    go_wp2
    go_ret2
    rw [hE.out]
    exact ⟨_, rfl, HO.out, HB1.out⟩
end Go.Proofs.YtblpkmmhmdpkjaaGreatDoor

/- The contract of what stands at the head of the statements of layer 15. -/





namespace Go.Proofs.YtblpkmmhmdpkjaaGreatDoor

open Go.RowKit

theorem js1 : jputE [⟨#[97, 98]⟩, ⟨#[99]⟩] = (⟨2, 1, 0, [(2, [97, 98, 99]), (3, [66, 1, 144])]⟩, 0) := by kernel_rfl
theorem js2 : jputE [⟨#[98]⟩, ⟨#[97]⟩, ⟨#[98]⟩, ⟨#[98]⟩] = (⟨4, 2, 2, [(2, [64, 3, 176]), (3, [64, 1, 192]), (4, [97, 98])]⟩, 0) := by kernel_rfl
theorem pair_two {L : List (Int × List UInt8 × Value)} {p q : Int × List UInt8} (h : [p, q] = L.map fun x => (x.1, x.2.1)) : ∃ u v, L = [(p.1, p.2, u), (q.1, q.2, v)] := by
  rcases L with _ | ⟨⟨x, b0, v0⟩, _ | ⟨⟨y, b1, v1⟩, _ | ⟨r, L⟩⟩⟩
  · cases h
  · simp at h
  · injection h with h1 h2
    injection h2 with h2 _
    subst h1 h2
    exact ⟨v0, v1, rfl⟩
  · simp at h
theorem pair_three {L : List (Int × List UInt8 × Value)} {p q r : Int × List UInt8} (h : [p, q, r] = L.map fun x => (x.1, x.2.1)) : ∃ u v z, L = [(p.1, p.2, u), (q.1, q.2, v), (r.1, r.2, z)] := by
  rcases L with _ | ⟨⟨x, b0, v0⟩, _ | ⟨⟨y, b1, v1⟩, _ | ⟨⟨z, b2, v2⟩, _ | ⟨r, L⟩⟩⟩⟩
  · cases h
  · simp at h
  · simp at h
  · injection h with h1 h2
    injection h2 with h2 h3
    injection h3 with h3 _
    subst h1 h2 h3
    exact ⟨v0, v1, v2, rfl⟩
  · simp at h
/-- The places of a column's streams. -/
theorem streams_at {L : List (Int × List UInt8 × Value)} {v : Value} {w : World} (h : IsR scells L v w) (h0 : 0 < L.length) : ∃ g o c, v = .slice (some ⟨g, o, none⟩) L.length c ∧ g < w.heap.size ∧ ∀ k, (hk : k < L.length) → w.cell? ⟨g, o + (k * 2 + 1), none⟩ = some L[k].2.2 := by
  obtain ⟨A, n, c, rfl⟩ := h.shape
  obtain ⟨ad, hA, hlt, hc⟩ := h.at (m := 2) (fun _ => rfl) (by omega) h0
  subst hA
  have hs := World.cell?_spot (hc 0 (by omega))
  obtain ⟨g, o, sp⟩ := ad
  have hsp : sp = none := by simpa [Addr.add] using hs
  subst hsp
  refine ⟨g, o, c, by rw [h.parts.1], hlt, fun k hk => ?_⟩
  obtain ⟨ad2, hA2, _, hc2⟩ := h.at (m := 2) (fun _ => rfl) (by omega) hk
  injection hA2 with hA2
  subst hA2
  exact hc2 1 (by omega)
set_option maxHeartbeats 2000000 in
set_option maxRecDepth 100000 in
theorem shown_any (w : World) (ht : WTab w) : Calls Tryz.prog 8 #[] w fun e w' => e = .returned (.bool true) ∧ Below w.heap.size w w' := by
  have HT := Lib.hid ht
  have h1 := jput_any [⟨#[97, 98]⟩, ⟨#[99]⟩] _ _ (ht.below ((Below.refl _ w).alloc (Nat.le_refl _) _) ht.lt) (isV_new Value.string w 9 [⟨#[97, 98]⟩, ⟨#[99]⟩] 2 rfl (by omega)) (by simp)
  rw [js1] at h1
  have H1 := Lib.hid h1
  have H2 := Lib.hid (fun (W : World) (ht : WTab W) => jput_any [⟨#[98]⟩, ⟨#[97]⟩, ⟨#[98]⟩, ⟨#[98]⟩] _ _ (ht.below ((Below.refl _ W).alloc (Nat.le_refl _) _) ht.lt) (isV_new Value.string W 9 [⟨#[98]⟩, ⟨#[97]⟩, ⟨#[98]⟩, ⟨#[98]⟩] 4 rfl (by omega)) (by simp))
  rw [js2] at H2
  clear ht h1
  go_enter Tryz.func8, Tryz.ntmps8
  go_wp2_with fail
  refine H1.out.mono ?_
  rintro e w1 ⟨v1, rfl, ⟨L1, s1, rfl, hI1, hB1, hS1⟩, hb1⟩
  obtain ⟨u0, u1, rfl⟩ := pair_two hS1
  obtain ⟨g1, o1, c1, rfl, hg1, hc1⟩ := streams_at hI1 (by simp)
  have hb01 := below_then ((Below.refl w.heap.size w).alloc (Nat.le_refl _) _) hb1
  have HB1 := Lib.hid hb01
  have HT1 := Lib.hid (HT.out.below hb01 HT.out.lt)
  have HC1 := Lib.hid hc1
  have HG1 := Lib.hid hg1
  have HBB1 := Lib.hid hB1
  clear hS1 hI1 hb1 hc1 hg1 hB1 hb01
  unfold colv
  dsimp only [List.length_cons, List.length_nil]
  obtain ⟨wb, hwb⟩ : ∃ wb, wb = w1.alloc (.cells #[.int .i64 2, .int .i64 1, .int .i64 0, .slice (some ⟨g1, o1, none⟩) 2 c1] 27) := ⟨_, rfl⟩
  have hrb : Row wb w1.heap.size 27 [.int .i64 2, .int .i64 1, .int .i64 0, .slice (some ⟨g1, o1, none⟩) 2 c1] := by rw [hwb]; exact heap_alloc_new w1 _
  have hbb : Below w1.heap.size w1 wb := by rw [hwb]; exact (Below.refl _ _).alloc (Nat.le_refl _) _
  have HRB := Lib.hid hrb
  have HBB := Lib.hid hbb
  have HTB := Lib.hid (HT1.out.below hbb HT1.out.lt)
  have h2 := H2.out wb HTB.out
  rw [show wb.heap.size = w1.heap.size + 1 by rw [hwb]; simp] at h2
  have H2B := Lib.hid h2
  clear hrb hbb h2
  go_wp2_with fail
  rw [← hwb]
  refine H2B.out.mono ?_
  rintro e w2 ⟨v2, rfl, ⟨L2, s2, rfl, hI2, hB2, hS2⟩, hb2⟩
  obtain ⟨z0, z1, z2, rfl⟩ := pair_three hS2
  obtain ⟨g2, o2, c2, rfl, hg2, hc2⟩ := streams_at hI2 (by simp)
  have hb12 := below_then ((Below.refl wb.heap.size wb).alloc (Nat.le_refl _) _) hb2
  have hb02 := below_then HBB.out hb12
  unfold colv
  dsimp only [List.length_cons, List.length_nil]
  have hX : Below w2.heap.size w2 (w2.alloc (.cells #[.int .i64 4, .int .i64 2, .int .i64 2, .slice (some ⟨g2, o2, none⟩) 3 c2] 27)) := (Below.refl _ _).alloc (Nat.le_refl _) _
  have hX1 : Below w1.heap.size w1 (w2.alloc (.cells #[.int .i64 4, .int .i64 2, .int .i64 2, .slice (some ⟨g2, o2, none⟩) 3 c2] 27)) := below_then hb02 hX
  have r1 : Row (w2.alloc (.cells #[.int .i64 4, .int .i64 2, .int .i64 2, .slice (some ⟨g2, o2, none⟩) 3 c2] 27)) w1.heap.size 27 [.int .i64 2, .int .i64 1, .int .i64 0, .slice (some ⟨g1, o1, none⟩) 2 c1] := (HRB.out.below hb12 HRB.out.lt).below hX (HRB.out.below hb12 HRB.out.lt).lt
  have r2 : Row (w2.alloc (.cells #[.int .i64 4, .int .i64 2, .int .i64 2, .slice (some ⟨g2, o2, none⟩) 3 c2] 27)) w2.heap.size 27 [.int .i64 4, .int .i64 2, .int .i64 2, .slice (some ⟨g2, o2, none⟩) 3 c2] := heap_alloc_new w2 _
  have a0 := r1.cell 0
  have a1 := r1.cell 1
  have a3 := r1.cell 3
  have b1 := r2.cell 1
  have b2 := r2.cell 2
  have b3 := r2.cell 3
  simp only [List.getElem?_cons_zero, List.getElem?_cons_succ] at a0 a1 a3 b1 b2 b3
  have m0 : (w2.alloc (.cells #[.int .i64 4, .int .i64 2, .int .i64 2, .slice (some ⟨g2, o2, none⟩) 3 c2] 27)).cell? ⟨g1, o1 + 1, none⟩ = some u0 := (hX1.cell (p := ⟨g1, o1 + 1, none⟩) HG1.out).trans (HC1.out 0 (by simp))
  have m1 : (w2.alloc (.cells #[.int .i64 4, .int .i64 2, .int .i64 2, .slice (some ⟨g2, o2, none⟩) 3 c2] 27)).cell? ⟨g1, o1 + 1 * 2 + 1, none⟩ = some u1 := (hX1.cell (p := ⟨g1, o1 + 3, none⟩) HG1.out).trans (HC1.out 1 (by simp))
  have n0 : (w2.alloc (.cells #[.int .i64 4, .int .i64 2, .int .i64 2, .slice (some ⟨g2, o2, none⟩) 3 c2] 27)).cell? ⟨g2, o2 + 1, none⟩ = some z0 := (hX.cell (p := ⟨g2, o2 + 1, none⟩) hg2).trans (hc2 0 (by simp))
  have n1 : (w2.alloc (.cells #[.int .i64 4, .int .i64 2, .int .i64 2, .slice (some ⟨g2, o2, none⟩) 3 c2] 27)).cell? ⟨g2, o2 + 1 * 2 + 1, none⟩ = some z1 := (hX.cell (p := ⟨g2, o2 + 3, none⟩) hg2).trans (hc2 1 (by simp))
  have n2 : (w2.alloc (.cells #[.int .i64 4, .int .i64 2, .int .i64 2, .slice (some ⟨g2, o2, none⟩) 3 c2] 27)).cell? ⟨g2, o2 + 2 * 2 + 1, none⟩ = some z2 := (hX.cell (p := ⟨g2, o2 + 5, none⟩) hg2).trans (hc2 2 (by simp))
  have t0 := textB ((HBB1.out _ List.mem_cons_self).below hX1)
  have t1 := textB ((HBB1.out _ (List.mem_cons_of_mem _ List.mem_cons_self)).below hX1)
  have q0 := textB ((hB2 _ List.mem_cons_self).below hX)
  have q1 := textB ((hB2 _ (List.mem_cons_of_mem _ List.mem_cons_self)).below hX)
  have q2 := textB ((hB2 _ (List.mem_cons_of_mem _ (List.mem_cons_of_mem _ List.mem_cons_self))).below hX)
  dsimp only at t0 t1 q0 q1 q2
  have HE := Lib.hid (below_then HB1.out hX1)
  clear hX hX1 r1 r2 hI2 hB2 hS2 hb2 hg2 hc2 hb12 hb02 hwb
  go_wp2
  go_ret
  exact ⟨rfl, HE.out⟩
theorem IsCol.shape {c : JC} {v : Value} {w : World} (h : IsCol c v w) : ∃ A n k, v = colv c (.slice A n k) := by
  obtain ⟨L, s, rfl, h, _⟩ := h
  obtain ⟨A, n, k, rfl⟩ := h.shape
  exact ⟨A, n, k, rfl⟩
theorem jputE_many (l : List ByteArray) : (jputE l).1.streams.length ≤ 1000000 := by
  unfold jputE
  split
  · simp [jcBad]
  · split <;> simp
theorem jput_small {l : List ByteArray} (h : l.length ≤ 300) (hs : ∀ s ∈ l, s.size ≤ 300) : ∀ p ∈ (jputE l).1.streams, p.2.length ≤ 1000000 := by
  have hwl := jwords_len l
  have hwm : ∀ s ∈ jwords l, s.size ≤ 300 := fun s hx => hs s (jwords_mem.1 hx)
  have hlen : ∀ {m : List ByteArray}, (∀ s ∈ m, s.size ≤ 300) → ∀ x ∈ jlens m, 0 ≤ x ∧ x ≤ 9223372036854775807 := by
    intro m hm x hx
    obtain ⟨s, h2, rfl⟩ := List.mem_map.1 hx
    have := hm s h2
    omega
  have hb1 := jbytes_len hs
  have hb2 := jbytes_len hwm
  obtain ⟨b, e1, e2, _⟩ := nats_put (l := jlens l) (by unfold jlens; rw [List.length_map]; omega) (hlen hs)
  obtain ⟨b', e1', e2', _⟩ := nats_put (l := jlens (jwords l)) (by unfold jlens; rw [List.length_map]; omega) (hlen hwm)
  obtain ⟨q, q1, q2, _⟩ := nats_put (l := jplaces (jwords l) l) (by unfold jplaces; rw [List.length_map]; omega) (by
    intro x hx
    obtain ⟨s, h2, rfl⟩ := List.mem_map.1 hx
    obtain ⟨h3, _⟩ := jplace_in (jwords_mem.2 h2)
    omega)
  intro p hp
  unfold jputE at hp
  split at hp
  · simp [jcBad] at hp
  · split at hp
    · simp at hp
      rcases hp with rfl | rfl
      · dsimp only; omega
      · rw [e1]; dsimp only; omega
    · simp at hp
      rcases hp with rfl | rfl | rfl
      · rw [q1]; dsimp only; omega
      · rw [e1']; dsimp only; omega
      · dsimp only; omega
end Go.Proofs.YtblpkmmhmdpkjaaGreatDoor
