/- Texts that the claims of this seat share, part 4: HMay HKnown HPart HKeep. -/
import Derived.Test.YtniniophoocalaaDoorG3
/- The contract of layer 18's reference: May. Written by gen_hmay.py. -/



namespace Go.Proofs.YtniniophoocalaaDoor

open Go.RowKit

theorem pred_at1 (W : World) (g : Nat) : (Instr.fieldAt 51 (.pointer (some ⟨g, 0, none⟩)) 1).run Tryd.prog W = .ok (.pointer (some ⟨g, 1, none⟩)) W := by kernel_rfl
theorem pred_at2 (W : World) (g : Nat) : (Instr.fieldAt 51 (.pointer (some ⟨g, 0, none⟩)) 2).run Tryd.prog W = .ok (.pointer (some ⟨g, 2, none⟩)) W := by kernel_rfl
theorem col_sizeH : ∀ W, (sizeOf 39).run Tryd.prog W = .ok 2 W := Tryd.sizeOf39
theorem col_kindH (W : World) (a : Addr) : (Instr.fieldAt 39 (.pointer (some a)) 1).run Tryd.prog W = .ok (.pointer (some (a.add 1))) W := by
  simp [Instr.fieldAt, run_underlying Tryd.underlying39, Instr.sureAddr, fieldPlace]
def hpks (cols : List CC) : List Int := cols.map (·.kind)
theorem hpdeep_app (ds : List Int) : ∀ (a b : List Int) (x : Int), hpdeep ds (a ++ b) x = (hpdeep ds a x).bind (hpdeep ds b)
  | [], _, _ => rfl
  | q :: a, b, x => by
    rw [List.cons_append, hpdeep, hpdeep]
    split
    · rfl
    · exact hpdeep_app ds a b _
theorem hpdeep_next {ds ls : List Int} {m : Nat} {d : Int} (hm : m < ls.length) (h : hpdeep ds (ls.take m) 0 = some d) (hq : ¬ (ls[m] < 0 ∨ (ds.length : Int) ≤ ls[m])) : hpdeep ds (ls.take (m + 1)) 0 = some (max d (ds.getD ls[m].toNat 0)) := by
  rw [List.take_succ_eq_append_getElem hm, hpdeep_app, h]
  show hpdeep ds [ls[m]] d = _
  rw [hpdeep, if_neg hq]
  rfl
theorem hpdeep_no {ds ls : List Int} {m : Nat} {d : Int} (hm : m < ls.length) (h : hpdeep ds (ls.take m) 0 = some d) (hq : ls[m] < 0 ∨ (ds.length : Int) ≤ ls[m]) : hpdeep ds ls 0 = none := by
  have e : ls = ls.take m ++ (ls[m] :: ls.drop (m + 1)) := by rw [List.getElem_cons_drop, List.take_append_drop]
  rw [e, hpdeep_app, h]
  show hpdeep ds (ls[m] :: ls.drop (m + 1)) d = none
  rw [hpdeep, if_pos hq]
theorem hpdepths_next {ks : List Int} {l : List HN} {j : Nat} {ds : List Int} {d : Int} (hj : j < l.length) (h : hpdepths ks (l.take j) [] = some ds) (hn : hpnode ks ds l[j] = some d) (h6 : d + 1 ≤ 6) : hpdepths ks (l.take (j + 1)) [] = some (ds ++ [d + 1]) := by
  rw [List.take_succ_eq_append_getElem hj, hpdepths_app, h]
  show hpdepths ks [l[j]] ds = _
  rw [hpdepths, hn]
  dsimp only
  rw [if_neg (by omega)]
  rfl
theorem hpmay_no {ks : List Int} {l : List HN} {j : Nat} {ds : List Int} (hj : j < l.length) (h : hpdepths ks (l.take j) [] = some ds) (hn : hpnode ks ds l[j] = none ∨ ∃ d, hpnode ks ds l[j] = some d ∧ 6 < d + 1) : hpmayE ks l = false := by
  unfold hpmayE
  have e : l = l.take j ++ (l[j] :: l.drop (j + 1)) := by rw [List.getElem_cons_drop, List.take_append_drop]
  have h2 : hpdepths ks l [] = none := by
    rw [e, hpdepths_app, h]
    show hpdepths ks (l[j] :: l.drop (j + 1)) ds = none
    rw [hpdepths]
    rcases hn with hn | ⟨d, hn, h6⟩
    · rw [hn]
    · rw [hn]
      dsimp only
      rw [if_pos h6]
  rw [h2]
  simp
theorem hpmay_len {ks : List Int} {l : List HN} (h : ¬ (1 ≤ l.length ∧ l.length ≤ 40)) : hpmayE ks l = false := by
  unfold hpmayE
  rw [decide_eq_false h, Bool.false_and]
theorem hpmay_yes {ks : List Int} {l : List HN} {ds : List Int} (h1 : 1 ≤ l.length) (h40 : l.length ≤ 40) (h : hpdepths ks l [] = some ds) : hpmayE ks l = true := by
  unfold hpmayE
  rw [decide_eq_true ⟨h1, h40⟩, h]
  rfl
def HMayRel (ks : List Int) (l : List HN) (w : World) (ov i : Value) (wr : World) : Prop :=
  ∃ (j : Nat) (ds : List Int), j ≤ l.length ∧ i = .int .i64 (j : Int) ∧ hpdepths ks (l.take j) [] = some ds ∧ (∀ i, 0 ≤ ds.getD i 0 ∧ ds.getD i 0 ≤ 6) ∧ wr.ownsRow w.heap.size 3 1 ov j (ds.map iv) ∧ Below w.heap.size w wr
def HDeepRel (ls ds : List Int) (W : World) (x k : Value) (wr : World) : Prop :=
  ∃ (m : Nat) (d : Int), m ≤ ls.length ∧ k = .int .i64 (m : Int) ∧ x = .int .i64 d ∧ (0 ≤ d ∧ d ≤ 6) ∧ hpdeep ds (ls.take m) 0 = some d ∧ wr = W
/-- Values that are something of a kind, so far. -/
def HSomeRel (kd : Int) (vals : List CV) (W : World) (k : Value) (wr : World) : Prop :=
  ∃ m : Nat, m ≤ vals.length ∧ k = .int .i64 (m : Int) ∧ (vals.take m).all (hpsome kd) = true ∧ Below W.heap.size W wr
theorem getD_snoc6 {ds : List Int} {x : Int} (ho : ∀ i, 0 ≤ ds.getD i 0 ∧ ds.getD i 0 ≤ 6) (hx : 0 ≤ x ∧ x ≤ 6) : ∀ i, 0 ≤ (ds ++ [x]).getD i 0 ∧ (ds ++ [x]).getD i 0 ≤ 6 := by
  intro i
  rcases Nat.lt_trichotomy i ds.length with h | h | h
  · rw [getDL h]; exact ho i
  · subst h; rw [getDR (Nat.le_refl _)]; simpa using hx
  · rw [getDN (by simp; omega)]; omega
set_option maxHeartbeats 8000000 in
set_option maxRecDepth 100000 in
theorem rmay18_any (cols : List CC) (l : List HN) (cv_ lv_ : Value) (w : World) (hU : Tryd.U8 w) (hc : IsR ccells cols cv_ w) (hl : IsPreds l lv_ w) :
    Calls Tryd.prog 11 #[cv_, lv_] w fun e w' => e = .returned (.bool (hpmayE (hpks cols) l)) ∧ Below w.heap.size w w' := by
  have HU := Lib.hid hU
  have HL := Lib.hid hl
  obtain ⟨A, n, c, rfl⟩ := hl.1.shape
  obtain ⟨cA, cn, cc, rfl⟩ := hc.shape
  have HCV := Lib.hid hc
  have HCN := Lib.hid hc.parts.1
  have HN := Lib.hid hl.1.parts.1
  have hcn6 : (cn : Int) ≤ 9223372036854775807 := by obtain ⟨_, _, h3, h4, _⟩ := hc.parts; unfold maxLen at h4; omega
  have hni : (n : Int) ≤ 9223372036854775807 := by have h := hl.1.parts; have h2 := h.2.2.1; have h3 := h.2.2.2.1; unfold maxLen at h3; omega
  have HST : Hid (HMayRel (hpks cols) l w (.slice (some ⟨w.heap.size, 0, none⟩) 0 0) (.int .i64 0) (w.alloc (.cells #[] 3))) := Lib.hid ⟨0, [], Nat.zero_le _, rfl, rfl, by intro i; simp, ownW_made w _ 1, (Below.refl _ _).alloc (Nat.le_refl _) _⟩
  clear hl hc hU
  by_cases hn1 : n < 1
  · have HF : Hid (hpmayE (hpks cols) l = false) := Lib.hid (hpmay_len (by have := HN.out; omega))
    have d0 : decide ((n : Int) < 1) = true := decide_eq_true (by omega)
    go_enter Tryd.func11, Tryd.ntmps11
    go_wp2
    go_ret
    exact ⟨by rw [HF.out]; rfl, Below.refl _ _⟩
  have dn0 : decide ((n : Int) < 1) = false := decide_eq_false (by omega)
  by_cases hn40 : 40 < n
  · have HF : Hid (hpmayE (hpks cols) l = false) := Lib.hid (hpmay_len (by have := HN.out; omega))
    have d1 : decide ((40 : Int) < (n : Int)) = true := decide_eq_true (by omega)
    go_enter Tryd.func11, Tryd.ntmps11
    go_wp2
    go_ret
    exact ⟨by rw [HF.out]; rfl, Below.refl _ _⟩
  have dn1 : decide ((40 : Int) < (n : Int)) = false := decide_eq_false (by omega)
  go_enter Tryd.func11, Tryd.ntmps11
  go_wp2
  go_loopw [5, 6] (HMayRel (hpks cols) l w) (fun _ i _ => n - (intOf i).toNat)
  case atStart => exact HST.out
  case round =>
    obtain ⟨j, ds, hj, rfl, hds, hdr, hown, hbw⟩ := hrel
    have hjn : j ≤ n := by have := HN.out; omega
    have HOWN := Lib.hid hown
    have HBW := Lib.hid hbw
    have HDS := Lib.hid hds
    have HDR := Lib.hid hdr
    have HDL : Hid (ds.length = j) := Lib.hid (by have h := hpdepths_len hds; rw [List.length_take, Nat.min_eq_left hj] at h; simpa using h)
    clear hj hown hbw hds hdr
    by_cases hlt : j < n
    · have hjl : j < l.length := by have := HN.out; omega
      have hlti : (j : Int) < (n : Int) := by omega
      obtain ⟨ad, rfl, had, hcell⟩ := (HL.out.1.below HBW.out).at (m := 7) (fun _ => rfl) (by omega) hjl
      have HAT0 := Lib.hid ((HL.out.2 l[j] (List.getElem_mem hjl)).below HBW.out)
      have HATW := Lib.hid (HL.out.2 l[j] (List.getElem_mem hjl))
      obtain ⟨x, hx⟩ : ∃ x, x = l[j] := ⟨_, rfl⟩
      rw [← hx] at hcell HAT0 HATW
      have HX := Lib.hid hx
      obtain ⟨k0, k1, k2, k3, k4, k5, k6⟩ := cells7 hcell
      obtain ⟨op, col, ⟨nb, nn, ns⟩, vals, ls, vv, lv⟩ := x
      dsimp only at k0 k1 k2 k3 k4 k5 k6
      obtain ⟨vA, vm, vc, rfl⟩ := HAT0.out.vals.shape
      obtain ⟨lA, lm, lc, rfl⟩ := HAT0.out.ls.shape
      clear hcell had hx
      have HBX : Hid (Row (wr.alloc (.cells #[.int .i64 op, .int .i64 col, .bool nb, .int .i64 nn, .string ns, .slice vA vm vc, .slice lA lm lc] 51)) wr.heap.size 51 [.int .i64 op, .int .i64 col, .bool nb, .int .i64 nn, .string ns, .slice vA vm vc, .slice lA lm lc]) := Lib.hid (heap_alloc_new wr _)
      have hb1 : Below wr.heap.size wr (wr.alloc (.cells #[.int .i64 op, .int .i64 col, .bool nb, .int .i64 nn, .string ns, .slice vA vm vc, .slice lA lm lc] 51)) := (Below.refl _ _).alloc (Nat.le_refl _) _
      have HAT := Lib.hid (HAT0.out.below hb1)
      have HLS : Hid (IsV iv ls (.slice lA lm lc) (wr.alloc (.cells #[.int .i64 op, .int .i64 col, .bool nb, .int .i64 nn, .string ns, .slice vA vm vc, .slice lA lm lc] 51))) := Lib.hid HAT.out.ls
      have HLM := Lib.hid HLS.out.parts.1
      have hlmI : (lm : Int) ≤ 9223372036854775807 := by have h := HLS.out.parts; have h2 := h.2.2.1; have h3 := h.2.2.2.1; unfold maxLen at h3; omega
      have HBW1 := Lib.hid (below_then HBW.out hb1)
      have HOWN1 := Lib.hid (own_below HOWN.out hb1)
      have HOV := Lib.hid (isV_own (f := iv) HOWN1.out)
      clear hb1
      obtain ⟨oA, on, oc, rfl⟩ := HOV.out.shape
      have HON : Hid (on = j) := Lib.hid (by rw [← HOV.out.parts.1]; exact HDL.out)
      by_cases h1 : op = 1
      · subst h1
        have b0 := HBX.out.cell 0
        have b1 := HBX.out.cell 1
        have b2 := HBX.out.cell 2
        have b3 := HBX.out.cell 3
        have b4 := HBX.out.cell 4
        have b5 := HBX.out.cell 5
        have b6 := HBX.out.cell 6
        rcases Nat.eq_zero_or_pos lm with rfl | hl0
        · have HLL0 := HLM.out
          have d0 : decide (((0 : Nat) : Int) < 1) = true := by decide
          have HF : Hid (hpmayE (hpks cols) l = false) := Lib.hid (hpmay_no hjl HDS.out (.inl (by rw [← HX.out]; unfold hpnode; dsimp only; rw [if_pos (by omega), if_pos (by omega)])))
          go_wp2
          go_ret
          exact ⟨by rw [HF.out]; rfl, HBW1.out⟩
        have d0 : decide ((lm : Int) < 1) = false := decide_eq_false (by omega)
        have HND : Hid (hpnode (hpks cols) ds ⟨1, col, ⟨nb, nn, ns⟩, vals, ls, .slice vA vm vc, .slice lA lm lc⟩ = hpdeep ds ls 0) := Lib.hid (by have := HLM.out; unfold hpnode; dsimp only; rw [if_pos (by omega), if_neg (by omega)])
        have HST := Lib.hid (show HDeepRel ls ds (wr.alloc (.cells #[.int .i64 1, .int .i64 col, .bool nb, .int .i64 nn, .string ns, .slice vA vm vc, .slice lA lm lc] 51)) (.int .i64 0) (.int .i64 0) _ from ⟨0, 0, Nat.zero_le _, rfl, rfl, by omega, rfl, rfl⟩)
        go_wp2
        go_loopw [8, 9] (HDeepRel ls ds (wr.alloc (.cells #[.int .i64 1, .int .i64 col, .bool nb, .int .i64 nn, .string ns, .slice vA vm vc, .slice lA lm lc] 51))) (fun _ i _ => lm - (intOf i).toNat)
        case atStart => exact HST.out
        case round =>
          obtain ⟨m, d, hm, rfl, rfl, hd6, hdd, rfl⟩ := hrel
          have hmm : m ≤ lm := by have := HLM.out; omega
          have HDD := Lib.hid hdd
          clear hm hdd
          by_cases hlt : m < lm
          · have hml : m < ls.length := by have := HLM.out; omega
            have hlti : (m : Int) < (lm : Int) := by omega
            obtain ⟨a2, rfl, _, hc2⟩ := HLS.out.at hml
            obtain ⟨q, hq⟩ : ∃ q, q = ls[m] := ⟨_, rfl⟩
            rw [← hq] at hc2
            have hc3 : (wr.alloc (.cells #[.int .i64 1, .int .i64 col, .bool nb, .int .i64 nn, .string ns, .slice vA vm vc, .slice (some a2) lm lc] 51)).cell? (a2.add m) = some (.int .i64 q) := hc2
            have HQ := Lib.hid hq
            clear hq hc2
            by_cases hq0 : q < 0
            · have q0 : decide (q < 0) = true := decide_eq_true hq0
              have HF : Hid (hpmayE (hpks cols) l = false) := Lib.hid (hpmay_no hjl HDS.out (.inl (by rw [← HX.out]; have h := HND.out; rw [h]; exact hpdeep_no hml HDD.out (.inl (by rw [← HQ.out]; exact hq0)))))
              go_wp2
              go_ret
              exact ⟨by rw [HF.out]; rfl, HBW1.out⟩
            have q0 : decide (q < 0) = false := decide_eq_false hq0
            by_cases hqj : (j : Int) ≤ q
            · have q1 : decide ((j : Int) ≤ q) = true := decide_eq_true hqj
              have HF : Hid (hpmayE (hpks cols) l = false) := Lib.hid (hpmay_no hjl HDS.out (.inl (by rw [← HX.out]; have h := HND.out; rw [h]; exact hpdeep_no hml HDD.out (.inr (by rw [← HQ.out, HDL.out]; exact hqj)))))
              go_wp2
              go_ret
              exact ⟨by rw [HF.out]; rfl, HBW1.out⟩
            have q1 : decide ((j : Int) ≤ q) = false := decide_eq_false hqj
            have HNXD := Lib.hid (hpdeep_next hml HDD.out (by rw [← HQ.out, HDL.out]; omega))
            rw [← HQ.out] at HNXD
            obtain ⟨qn, rfl⟩ := Int.eq_ofNat_of_zero_le (by omega : 0 ≤ q)
            have hqn : qn < j := by omega
            have hqi : (qn : Int) < (on : Int) := by have := HON.out; omega
            obtain ⟨z, hz⟩ : ∃ z, z = ds.getD qn 0 := ⟨_, rfl⟩
            have hzr : 0 ≤ z ∧ z ≤ 6 := by rw [hz]; exact HDR.out qn
            obtain ⟨oa, hOA, _, hc4⟩ := HOV.out.at (k := qn) (by rw [HDL.out]; exact hqn)
            subst hOA
            have hc5 : (wr.alloc (.cells #[.int .i64 1, .int .i64 col, .bool nb, .int .i64 nn, .string ns, .slice vA vm vc, .slice (some a2) lm lc] 51)).cell? (oa.add qn) = some (.int .i64 z) := by rw [hc4, hz, getD_lt (by rw [HDL.out]; exact hqn)]; rfl
            rw [Int.toNat_natCast, ← hz] at HNXD
            clear hc4 hz hq0 hqj
            go_wp2
            go_roundw
            case rel => exact ⟨m + 1, max d z, hml, by go_num, rfl, by omega, HNXD.out, rfl⟩
            case measure => simp [intOf]; omega
          · obtain rfl : m = lm := by omega
            have hlti : ¬ (m : Int) < (m : Int) := by omega
            have HD : Hid (hpnode (hpks cols) ds ⟨1, col, ⟨nb, nn, ns⟩, vals, ls, .slice vA vm vc, .slice lA m lc⟩ = some d) := Lib.hid (by
              have h := HDD.out
              rw [List.take_of_length_le (by have := HLM.out; omega)] at h
              rw [HND.out, h])
            have hownP := HOWN1.out
            have hbwP := HBW1.out
            have hzP := HBW1.out.size
            have e9 : IntKind.i64.wrap (d + 1) = d + 1 := by rw [IntKind.wrap_i64]; omega
            go_wp2_with (at_builtin; refine wpList_pushH elemI rfl _ _ rfl w.heap.size _ _ _ (iv (d + 1)) _ w (wr.heap.size + 1) (by simp) rfl rfl rfl rfl hownP hbwP hzP (by omega) (by omega) ?_)
            intro v7 w7 hown7 hb7 _ _
            clear hownP hbwP hzP
            by_cases h6 : 6 < d + 1
            · have HF : Hid (hpmayE (hpks cols) l = false) := Lib.hid (hpmay_no hjl HDS.out (.inr ⟨_, by rw [← HX.out]; exact HD.out, h6⟩))
              have HB7 := Lib.hid hb7
              have d6 : decide (6 < d + 1) = true := decide_eq_true h6
              clear hown7 hb7
              go_wp2
              go_ret
              exact ⟨by rw [HF.out]; rfl, HB7.out⟩
            · have d6 : decide (6 < d + 1) = false := decide_eq_false h6
              have HREL : Hid (HMayRel (hpks cols) l w v7 (.int .i64 ((j : Int) + 1)) w7) := Lib.hid ⟨j + 1, _, hjl, by go_num, hpdepths_next hjl HDS.out (by rw [← HX.out]; exact HD.out) (by omega), getD_snoc6 HDR.out (by omega), by rw [List.map_append]; exact hown7, hb7⟩
              clear hown7 hb7
              go_wp2
              go_roundw
              case rel => exact HREL.out
              case measure => simp [intOf]; omega
      by_cases h2 : op = 2
      · subst h2
        have b0 := HBX.out.cell 0
        have b1 := HBX.out.cell 1
        have b2 := HBX.out.cell 2
        have b3 := HBX.out.cell 3
        have b4 := HBX.out.cell 4
        have b5 := HBX.out.cell 5
        have b6 := HBX.out.cell 6
        rcases Nat.eq_zero_or_pos lm with rfl | hl0
        · have HLL0 := HLM.out
          have d0 : decide (((0 : Nat) : Int) < 1) = true := by decide
          have HF : Hid (hpmayE (hpks cols) l = false) := Lib.hid (hpmay_no hjl HDS.out (.inl (by rw [← HX.out]; unfold hpnode; dsimp only; rw [if_pos (by omega), if_pos (by omega)])))
          go_wp2
          go_ret
          exact ⟨by rw [HF.out]; rfl, HBW1.out⟩
        have d0 : decide ((lm : Int) < 1) = false := decide_eq_false (by omega)
        have HND : Hid (hpnode (hpks cols) ds ⟨2, col, ⟨nb, nn, ns⟩, vals, ls, .slice vA vm vc, .slice lA lm lc⟩ = hpdeep ds ls 0) := Lib.hid (by have := HLM.out; unfold hpnode; dsimp only; rw [if_pos (by omega), if_neg (by omega)])
        have HST := Lib.hid (show HDeepRel ls ds (wr.alloc (.cells #[.int .i64 2, .int .i64 col, .bool nb, .int .i64 nn, .string ns, .slice vA vm vc, .slice lA lm lc] 51)) (.int .i64 0) (.int .i64 0) _ from ⟨0, 0, Nat.zero_le _, rfl, rfl, by omega, rfl, rfl⟩)
        go_wp2
        go_loopw [8, 9] (HDeepRel ls ds (wr.alloc (.cells #[.int .i64 2, .int .i64 col, .bool nb, .int .i64 nn, .string ns, .slice vA vm vc, .slice lA lm lc] 51))) (fun _ i _ => lm - (intOf i).toNat)
        case atStart => exact HST.out
        case round =>
          obtain ⟨m, d, hm, rfl, rfl, hd6, hdd, rfl⟩ := hrel
          have hmm : m ≤ lm := by have := HLM.out; omega
          have HDD := Lib.hid hdd
          clear hm hdd
          by_cases hlt : m < lm
          · have hml : m < ls.length := by have := HLM.out; omega
            have hlti : (m : Int) < (lm : Int) := by omega
            obtain ⟨a2, rfl, _, hc2⟩ := HLS.out.at hml
            obtain ⟨q, hq⟩ : ∃ q, q = ls[m] := ⟨_, rfl⟩
            rw [← hq] at hc2
            have hc3 : (wr.alloc (.cells #[.int .i64 2, .int .i64 col, .bool nb, .int .i64 nn, .string ns, .slice vA vm vc, .slice (some a2) lm lc] 51)).cell? (a2.add m) = some (.int .i64 q) := hc2
            have HQ := Lib.hid hq
            clear hq hc2
            by_cases hq0 : q < 0
            · have q0 : decide (q < 0) = true := decide_eq_true hq0
              have HF : Hid (hpmayE (hpks cols) l = false) := Lib.hid (hpmay_no hjl HDS.out (.inl (by rw [← HX.out]; have h := HND.out; rw [h]; exact hpdeep_no hml HDD.out (.inl (by rw [← HQ.out]; exact hq0)))))
              go_wp2
              go_ret
              exact ⟨by rw [HF.out]; rfl, HBW1.out⟩
            have q0 : decide (q < 0) = false := decide_eq_false hq0
            by_cases hqj : (j : Int) ≤ q
            · have q1 : decide ((j : Int) ≤ q) = true := decide_eq_true hqj
              have HF : Hid (hpmayE (hpks cols) l = false) := Lib.hid (hpmay_no hjl HDS.out (.inl (by rw [← HX.out]; have h := HND.out; rw [h]; exact hpdeep_no hml HDD.out (.inr (by rw [← HQ.out, HDL.out]; exact hqj)))))
              go_wp2
              go_ret
              exact ⟨by rw [HF.out]; rfl, HBW1.out⟩
            have q1 : decide ((j : Int) ≤ q) = false := decide_eq_false hqj
            have HNXD := Lib.hid (hpdeep_next hml HDD.out (by rw [← HQ.out, HDL.out]; omega))
            rw [← HQ.out] at HNXD
            obtain ⟨qn, rfl⟩ := Int.eq_ofNat_of_zero_le (by omega : 0 ≤ q)
            have hqn : qn < j := by omega
            have hqi : (qn : Int) < (on : Int) := by have := HON.out; omega
            obtain ⟨z, hz⟩ : ∃ z, z = ds.getD qn 0 := ⟨_, rfl⟩
            have hzr : 0 ≤ z ∧ z ≤ 6 := by rw [hz]; exact HDR.out qn
            obtain ⟨oa, hOA, _, hc4⟩ := HOV.out.at (k := qn) (by rw [HDL.out]; exact hqn)
            subst hOA
            have hc5 : (wr.alloc (.cells #[.int .i64 2, .int .i64 col, .bool nb, .int .i64 nn, .string ns, .slice vA vm vc, .slice (some a2) lm lc] 51)).cell? (oa.add qn) = some (.int .i64 z) := by rw [hc4, hz, getD_lt (by rw [HDL.out]; exact hqn)]; rfl
            rw [Int.toNat_natCast, ← hz] at HNXD
            clear hc4 hz hq0 hqj
            go_wp2
            go_roundw
            case rel => exact ⟨m + 1, max d z, hml, by go_num, rfl, by omega, HNXD.out, rfl⟩
            case measure => simp [intOf]; omega
          · obtain rfl : m = lm := by omega
            have hlti : ¬ (m : Int) < (m : Int) := by omega
            have HD : Hid (hpnode (hpks cols) ds ⟨2, col, ⟨nb, nn, ns⟩, vals, ls, .slice vA vm vc, .slice lA m lc⟩ = some d) := Lib.hid (by
              have h := HDD.out
              rw [List.take_of_length_le (by have := HLM.out; omega)] at h
              rw [HND.out, h])
            have hownP := HOWN1.out
            have hbwP := HBW1.out
            have hzP := HBW1.out.size
            have e9 : IntKind.i64.wrap (d + 1) = d + 1 := by rw [IntKind.wrap_i64]; omega
            go_wp2_with (at_builtin; refine wpList_pushH elemI rfl _ _ rfl w.heap.size _ _ _ (iv (d + 1)) _ w (wr.heap.size + 1) (by simp) rfl rfl rfl rfl hownP hbwP hzP (by omega) (by omega) ?_)
            intro v7 w7 hown7 hb7 _ _
            clear hownP hbwP hzP
            by_cases h6 : 6 < d + 1
            · have HF : Hid (hpmayE (hpks cols) l = false) := Lib.hid (hpmay_no hjl HDS.out (.inr ⟨_, by rw [← HX.out]; exact HD.out, h6⟩))
              have HB7 := Lib.hid hb7
              have d6 : decide (6 < d + 1) = true := decide_eq_true h6
              clear hown7 hb7
              go_wp2
              go_ret
              exact ⟨by rw [HF.out]; rfl, HB7.out⟩
            · have d6 : decide (6 < d + 1) = false := decide_eq_false h6
              have HREL : Hid (HMayRel (hpks cols) l w v7 (.int .i64 ((j : Int) + 1)) w7) := Lib.hid ⟨j + 1, _, hjl, by go_num, hpdepths_next hjl HDS.out (by rw [← HX.out]; exact HD.out) (by omega), getD_snoc6 HDR.out (by omega), by rw [List.map_append]; exact hown7, hb7⟩
              clear hown7 hb7
              go_wp2
              go_roundw
              case rel => exact HREL.out
              case measure => simp [intOf]; omega
      by_cases h3 : op = 3
      · subst h3
        have b0 := HBX.out.cell 0
        have b1 := HBX.out.cell 1
        have b2 := HBX.out.cell 2
        have b3 := HBX.out.cell 3
        have b4 := HBX.out.cell 4
        have b5 := HBX.out.cell 5
        have b6 := HBX.out.cell 6
        rcases Nat.eq_zero_or_pos lm with rfl | hl0
        · have HLL0 := HLM.out
          have d0 : decide (((0 : Nat) : Int) < 1) = true := by decide
          have HF : Hid (hpmayE (hpks cols) l = false) := Lib.hid (hpmay_no hjl HDS.out (.inl (by rw [← HX.out]; unfold hpnode; dsimp only; rw [if_pos (by omega), if_pos (by omega)])))
          go_wp2
          go_ret
          exact ⟨by rw [HF.out]; rfl, HBW1.out⟩
        by_cases hl1 : 1 < lm
        · have HLL0 := HLM.out
          have d0 : decide ((lm : Int) < 1) = false := decide_eq_false (by omega)
          have d1 : decide ((1 : Int) < (lm : Int)) = true := decide_eq_true (by omega)
          have HF : Hid (hpmayE (hpks cols) l = false) := Lib.hid (hpmay_no hjl HDS.out (.inl (by rw [← HX.out]; unfold hpnode; dsimp only; rw [if_pos (by omega), if_pos (by omega)])))
          go_wp2
          go_ret
          exact ⟨by rw [HF.out]; rfl, HBW1.out⟩
        have d1 : decide ((1 : Int) < (lm : Int)) = false := decide_eq_false (by omega)
        have d0 : decide ((lm : Int) < 1) = false := decide_eq_false (by omega)
        have HND : Hid (hpnode (hpks cols) ds ⟨3, col, ⟨nb, nn, ns⟩, vals, ls, .slice vA vm vc, .slice lA lm lc⟩ = hpdeep ds ls 0) := Lib.hid (by have := HLM.out; unfold hpnode; dsimp only; rw [if_pos (by omega), if_neg (by omega)])
        have HST := Lib.hid (show HDeepRel ls ds (wr.alloc (.cells #[.int .i64 3, .int .i64 col, .bool nb, .int .i64 nn, .string ns, .slice vA vm vc, .slice lA lm lc] 51)) (.int .i64 0) (.int .i64 0) _ from ⟨0, 0, Nat.zero_le _, rfl, rfl, by omega, rfl, rfl⟩)
        go_wp2
        go_loopw [8, 9] (HDeepRel ls ds (wr.alloc (.cells #[.int .i64 3, .int .i64 col, .bool nb, .int .i64 nn, .string ns, .slice vA vm vc, .slice lA lm lc] 51))) (fun _ i _ => lm - (intOf i).toNat)
        case atStart => exact HST.out
        case round =>
          obtain ⟨m, d, hm, rfl, rfl, hd6, hdd, rfl⟩ := hrel
          have hmm : m ≤ lm := by have := HLM.out; omega
          have HDD := Lib.hid hdd
          clear hm hdd
          by_cases hlt : m < lm
          · have hml : m < ls.length := by have := HLM.out; omega
            have hlti : (m : Int) < (lm : Int) := by omega
            obtain ⟨a2, rfl, _, hc2⟩ := HLS.out.at hml
            obtain ⟨q, hq⟩ : ∃ q, q = ls[m] := ⟨_, rfl⟩
            rw [← hq] at hc2
            have hc3 : (wr.alloc (.cells #[.int .i64 3, .int .i64 col, .bool nb, .int .i64 nn, .string ns, .slice vA vm vc, .slice (some a2) lm lc] 51)).cell? (a2.add m) = some (.int .i64 q) := hc2
            have HQ := Lib.hid hq
            clear hq hc2
            by_cases hq0 : q < 0
            · have q0 : decide (q < 0) = true := decide_eq_true hq0
              have HF : Hid (hpmayE (hpks cols) l = false) := Lib.hid (hpmay_no hjl HDS.out (.inl (by rw [← HX.out]; have h := HND.out; rw [h]; exact hpdeep_no hml HDD.out (.inl (by rw [← HQ.out]; exact hq0)))))
              go_wp2
              go_ret
              exact ⟨by rw [HF.out]; rfl, HBW1.out⟩
            have q0 : decide (q < 0) = false := decide_eq_false hq0
            by_cases hqj : (j : Int) ≤ q
            · have q1 : decide ((j : Int) ≤ q) = true := decide_eq_true hqj
              have HF : Hid (hpmayE (hpks cols) l = false) := Lib.hid (hpmay_no hjl HDS.out (.inl (by rw [← HX.out]; have h := HND.out; rw [h]; exact hpdeep_no hml HDD.out (.inr (by rw [← HQ.out, HDL.out]; exact hqj)))))
              go_wp2
              go_ret
              exact ⟨by rw [HF.out]; rfl, HBW1.out⟩
            have q1 : decide ((j : Int) ≤ q) = false := decide_eq_false hqj
            have HNXD := Lib.hid (hpdeep_next hml HDD.out (by rw [← HQ.out, HDL.out]; omega))
            rw [← HQ.out] at HNXD
            obtain ⟨qn, rfl⟩ := Int.eq_ofNat_of_zero_le (by omega : 0 ≤ q)
            have hqn : qn < j := by omega
            have hqi : (qn : Int) < (on : Int) := by have := HON.out; omega
            obtain ⟨z, hz⟩ : ∃ z, z = ds.getD qn 0 := ⟨_, rfl⟩
            have hzr : 0 ≤ z ∧ z ≤ 6 := by rw [hz]; exact HDR.out qn
            obtain ⟨oa, hOA, _, hc4⟩ := HOV.out.at (k := qn) (by rw [HDL.out]; exact hqn)
            subst hOA
            have hc5 : (wr.alloc (.cells #[.int .i64 3, .int .i64 col, .bool nb, .int .i64 nn, .string ns, .slice vA vm vc, .slice (some a2) lm lc] 51)).cell? (oa.add qn) = some (.int .i64 z) := by rw [hc4, hz, getD_lt (by rw [HDL.out]; exact hqn)]; rfl
            rw [Int.toNat_natCast, ← hz] at HNXD
            clear hc4 hz hq0 hqj
            go_wp2
            go_roundw
            case rel => exact ⟨m + 1, max d z, hml, by go_num, rfl, by omega, HNXD.out, rfl⟩
            case measure => simp [intOf]; omega
          · obtain rfl : m = lm := by omega
            have hlti : ¬ (m : Int) < (m : Int) := by omega
            have HD : Hid (hpnode (hpks cols) ds ⟨3, col, ⟨nb, nn, ns⟩, vals, ls, .slice vA vm vc, .slice lA m lc⟩ = some d) := Lib.hid (by
              have h := HDD.out
              rw [List.take_of_length_le (by have := HLM.out; omega)] at h
              rw [HND.out, h])
            have hownP := HOWN1.out
            have hbwP := HBW1.out
            have hzP := HBW1.out.size
            have e9 : IntKind.i64.wrap (d + 1) = d + 1 := by rw [IntKind.wrap_i64]; omega
            go_wp2_with (at_builtin; refine wpList_pushH elemI rfl _ _ rfl w.heap.size _ _ _ (iv (d + 1)) _ w (wr.heap.size + 1) (by simp) rfl rfl rfl rfl hownP hbwP hzP (by omega) (by omega) ?_)
            intro v7 w7 hown7 hb7 _ _
            clear hownP hbwP hzP
            by_cases h6 : 6 < d + 1
            · have HF : Hid (hpmayE (hpks cols) l = false) := Lib.hid (hpmay_no hjl HDS.out (.inr ⟨_, by rw [← HX.out]; exact HD.out, h6⟩))
              have HB7 := Lib.hid hb7
              have d6 : decide (6 < d + 1) = true := decide_eq_true h6
              clear hown7 hb7
              go_wp2
              go_ret
              exact ⟨by rw [HF.out]; rfl, HB7.out⟩
            · have d6 : decide (6 < d + 1) = false := decide_eq_false h6
              have HREL : Hid (HMayRel (hpks cols) l w v7 (.int .i64 ((j : Int) + 1)) w7) := Lib.hid ⟨j + 1, _, hjl, by go_num, hpdepths_next hjl HDS.out (by rw [← HX.out]; exact HD.out) (by omega), getD_snoc6 HDR.out (by omega), by rw [List.map_append]; exact hown7, hb7⟩
              clear hown7 hb7
              go_wp2
              go_roundw
              case rel => exact HREL.out
              case measure => simp [intOf]; omega
      by_cases ho4 : op < 4
      · have n1 : (op == 1) = false := by simpa using h1
        have n2 : (op == 2) = false := by simpa using h2
        have n3 : (op == 3) = false := by simpa using h3
        have l4 : decide (op < 4) = true := decide_eq_true ho4
        have b0 := HBX.out.cell 0
        have b1 := HBX.out.cell 1
        have b2 := HBX.out.cell 2
        have b3 := HBX.out.cell 3
        have b4 := HBX.out.cell 4
        have b5 := HBX.out.cell 5
        have b6 := HBX.out.cell 6
        have HF : Hid (hpmayE (hpks cols) l = false) := Lib.hid (hpmay_no hjl HDS.out (.inl (by rw [← HX.out]; unfold hpnode; dsimp only; rw [if_neg (by omega), if_pos (by omega)])))
        go_wp2
        go_ret
        exact ⟨by rw [HF.out]; rfl, HBW1.out⟩
      by_cases ho9 : 9 < op
      · have n1 : (op == 1) = false := by simpa using h1
        have n2 : (op == 2) = false := by simpa using h2
        have n3 : (op == 3) = false := by simpa using h3
        have l4 : decide (op < 4) = false := decide_eq_false ho4
        have l9 : decide (9 < op) = true := decide_eq_true ho9
        have b0 := HBX.out.cell 0
        have b1 := HBX.out.cell 1
        have b2 := HBX.out.cell 2
        have b3 := HBX.out.cell 3
        have b4 := HBX.out.cell 4
        have b5 := HBX.out.cell 5
        have b6 := HBX.out.cell 6
        have HF : Hid (hpmayE (hpks cols) l = false) := Lib.hid (hpmay_no hjl HDS.out (.inl (by rw [← HX.out]; unfold hpnode; dsimp only; rw [if_neg (by omega), if_pos (by omega)])))
        go_wp2
        go_ret
        exact ⟨by rw [HF.out]; rfl, HBW1.out⟩
      have HL47 : Hid (4 ≤ op ∧ op ≤ 9) := Lib.hid ⟨by omega, by omega⟩
      have n1 : (op == 1) = false := by simpa using h1
      have n2 : (op == 2) = false := by simpa using h2
      have n3 : (op == 3) = false := by simpa using h3
      have l4 : decide (op < 4) = false := decide_eq_false (by omega)
      have l9 : decide (9 < op) = false := decide_eq_false (by omega)
      by_cases h9 : op = 9
      · subst h9
        have HD : Hid (hpnode (hpks cols) ds ⟨9, col, ⟨nb, nn, ns⟩, vals, ls, .slice vA vm vc, .slice lA lm lc⟩ = some 0) := Lib.hid (by unfold hpnode; dsimp only; rw [if_neg (by omega), if_neg (by omega), if_neg (by omega), if_neg (by omega)])
        have b0 := HBX.out.cell 0
        have b1 := HBX.out.cell 1
        have b2 := HBX.out.cell 2
        have b3 := HBX.out.cell 3
        have b4 := HBX.out.cell 4
        have b5 := HBX.out.cell 5
        have b6 := HBX.out.cell 6
        have hownP := HOWN1.out
        have hbwP := HBW1.out
        have hzP := HBW1.out.size
        go_wp2_with (at_builtin; refine wpList_pushH elemI rfl _ _ rfl w.heap.size _ _ _ (iv (1)) _ w (wr.heap.size + 1) (by simp) rfl rfl rfl rfl hownP hbwP hzP (by omega) (by omega) ?_)
        intro v7 w7 hown7 hb7 _ _
        clear hownP hbwP hzP
        by_cases h6 : (6 : Int) < 1
        · have HF : Hid (hpmayE (hpks cols) l = false) := Lib.hid (hpmay_no hjl HDS.out (.inr ⟨_, by rw [← HX.out]; exact HD.out, h6⟩))
          have HB7 := Lib.hid hb7
          have d6 : decide ((6 : Int) < 1) = true := decide_eq_true h6
          clear hown7 hb7
          go_wp2
          go_ret
          exact ⟨by rw [HF.out]; rfl, HB7.out⟩
        · have d6 : decide ((6 : Int) < 1) = false := decide_eq_false h6
          have HREL : Hid (HMayRel (hpks cols) l w v7 (.int .i64 ((j : Int) + 1)) w7) := Lib.hid ⟨j + 1, _, hjl, by go_num, hpdepths_next hjl HDS.out (by rw [← HX.out]; exact HD.out) (by omega), getD_snoc6 HDR.out (by omega), by rw [List.map_append]; exact hown7, hb7⟩
          clear hown7 hb7
          go_wp2
          go_roundw
          case rel => exact HREL.out
          case measure => simp [intOf]; omega
      have n9 : (op != 9) = true := by simpa using h9
      by_cases hc0 : col < 0
      · have c0 : decide (col < 0) = true := decide_eq_true hc0
        have b0 := HBX.out.cell 0
        have b1 := HBX.out.cell 1
        have b2 := HBX.out.cell 2
        have b3 := HBX.out.cell 3
        have b4 := HBX.out.cell 4
        have b5 := HBX.out.cell 5
        have b6 := HBX.out.cell 6
        have HF : Hid (hpmayE (hpks cols) l = false) := Lib.hid (hpmay_no hjl HDS.out (.inl (by rw [← HX.out]; have := HCN.out; unfold hpnode hpks; dsimp only; rw [if_neg (by omega), if_pos (by simp only [List.length_map]; omega)])))
        go_wp2
        go_ret
        exact ⟨by rw [HF.out]; rfl, HBW1.out⟩
      have c0 : decide (col < 0) = false := decide_eq_false hc0
      by_cases hcn : (cn : Int) ≤ col
      · have c1 : decide ((cn : Int) ≤ col) = true := decide_eq_true hcn
        have b0 := HBX.out.cell 0
        have b1 := HBX.out.cell 1
        have b2 := HBX.out.cell 2
        have b3 := HBX.out.cell 3
        have b4 := HBX.out.cell 4
        have b5 := HBX.out.cell 5
        have b6 := HBX.out.cell 6
        have HF : Hid (hpmayE (hpks cols) l = false) := Lib.hid (hpmay_no hjl HDS.out (.inl (by rw [← HX.out]; have := HCN.out; unfold hpnode hpks; dsimp only; rw [if_neg (by omega), if_pos (by simp only [List.length_map]; omega)])))
        go_wp2
        go_ret
        exact ⟨by rw [HF.out]; rfl, HBW1.out⟩
      have c1 : decide ((cn : Int) ≤ col) = false := decide_eq_false hcn
      obtain ⟨cx, rfl⟩ := Int.eq_ofNat_of_zero_le (by omega : 0 ≤ col)
      have hcx : cx < cols.length := by have := HCN.out; omega
      have hcxn : cx < cn := by have := HCN.out; omega
      obtain ⟨cad, hCA, _, _⟩ := HCV.out.at (m := 2) (fun _ => rfl) (by omega) hcx
      subst hCA
      obtain ⟨kd, hkd⟩ : ∃ kd, kd = cols[cx].kind := ⟨_, rfl⟩
      have hgk : (hpks cols).getD (cx : Int).toNat 0 = kd := by rw [Int.toNat_natCast, hkd]; unfold hpks; simp [List.getD, List.getElem?_eq_getElem hcx]
      have HGK := Lib.hid hgk
      have HKD : Hid (∀ X, Below w.heap.size w X → X.cell? ((cad.add (cx * 2)).add 1) = some (.int .i64 kd)) := Lib.hid (fun X hX => by
        obtain ⟨a, hA, _, hc⟩ := (HCV.out.below hX).at (m := 2) (fun _ => rfl) (by omega) hcx
        injection hA with hA
        subst hA
        rw [add_add, hc 1 (by omega), hkd]
        rfl)
      clear hkd hgk
      by_cases h8 : op = 8
      · subst h8
        have HD : Hid (hpnode (hpks cols) ds ⟨8, (cx : Int), ⟨nb, nn, ns⟩, vals, ls, .slice vA vm vc, .slice lA lm lc⟩ = some 0) := Lib.hid (by have := HCN.out; unfold hpnode hpks; dsimp only; rw [if_neg (by omega), if_neg (by simp only [List.length_map]; omega), if_neg (by omega), if_neg (by omega)])
        have b0 := HBX.out.cell 0
        have b1 := HBX.out.cell 1
        have b2 := HBX.out.cell 2
        have b3 := HBX.out.cell 3
        have b4 := HBX.out.cell 4
        have b5 := HBX.out.cell 5
        have b6 := HBX.out.cell 6
        have hownP := HOWN1.out
        have hbwP := HBW1.out
        have hzP := HBW1.out.size
        go_wp2_with (at_builtin; refine wpList_pushH elemI rfl _ _ rfl w.heap.size _ _ _ (iv (1)) _ w (wr.heap.size + 1) (by simp) rfl rfl rfl rfl hownP hbwP hzP (by omega) (by omega) ?_)
        intro v7 w7 hown7 hb7 _ _
        clear hownP hbwP hzP
        by_cases h6 : (6 : Int) < 1
        · have HF : Hid (hpmayE (hpks cols) l = false) := Lib.hid (hpmay_no hjl HDS.out (.inr ⟨_, by rw [← HX.out]; exact HD.out, h6⟩))
          have HB7 := Lib.hid hb7
          have d6 : decide ((6 : Int) < 1) = true := decide_eq_true h6
          clear hown7 hb7
          go_wp2
          go_ret
          exact ⟨by rw [HF.out]; rfl, HB7.out⟩
        · have d6 : decide ((6 : Int) < 1) = false := decide_eq_false h6
          have HREL : Hid (HMayRel (hpks cols) l w v7 (.int .i64 ((j : Int) + 1)) w7) := Lib.hid ⟨j + 1, _, hjl, by go_num, hpdepths_next hjl HDS.out (by rw [← HX.out]; exact HD.out) (by omega), getD_snoc6 HDR.out (by omega), by rw [List.map_append]; exact hown7, hb7⟩
          clear hown7 hb7
          go_wp2
          go_roundw
          case rel => exact HREL.out
          case measure => simp [intOf]; omega
      by_cases h7 : op = 7
      · subst h7
        have hvmI : (vm : Int) ≤ 9223372036854775807 := by have h := HAT.out.vals.parts; have h2 := h.2.2.1; have h3 := h.2.2.2.1; unfold maxLen at h3; omega
        have HVM := Lib.hid HAT.out.vals.parts.1
        obtain ⟨wz, rfl⟩ : ∃ x, x = wr := ⟨wr, rfl⟩
        have HST := Lib.hid (show HSomeRel kd vals (wz.alloc (.cells #[.int .i64 7, .int .i64 (cx : Int), .bool nb, .int .i64 nn, .string ns, .slice vA vm vc, .slice lA lm lc] 51)) (.int .i64 0) _ from ⟨0, Nat.zero_le _, rfl, rfl, Below.refl _ _⟩)
        have b0 := HBX.out.cell 0
        have b1 := HBX.out.cell 1
        have b2 := HBX.out.cell 2
        have b3 := HBX.out.cell 3
        have b4 := HBX.out.cell 4
        have b5 := HBX.out.cell 5
        have b6 := HBX.out.cell 6
        go_wp2
        go_loopw [11] (HSomeRel kd vals (wz.alloc (.cells #[.int .i64 7, .int .i64 (cx : Int), .bool nb, .int .i64 nn, .string ns, .slice vA vm vc, .slice lA lm lc] 51))) (fun i _ => vm - (intOf i).toNat)
        case atStart => exact HST.out
        case round =>
          obtain ⟨m, hm, rfl, hall, hbin⟩ := hrel
          have hmm : m ≤ vm := by have := HVM.out; omega
          have HALL := Lib.hid hall
          have HBIN := Lib.hid hbin
          have HBX1W := Lib.hid (below_then HBW1.out hbin)
          have HBX2 := Lib.hid (HBX.out.below hbin HBX.out.lt)
          have HOWI := Lib.hid (own_below HOWN1.out hbin)
          have c0 := HBX2.out.cell 0
          have c5 := HBX2.out.cell 5
          clear hm hall hbin b0 b1 b2 b3 b4 b5 b6
          by_cases hlt : m < vm
          · have hml : m < vals.length := by have := HVM.out; omega
            have hlti : (m : Int) < (vm : Int) := by omega
            obtain ⟨va, hVA, _, _⟩ := HATW.out.vals.at (m := 3) (fun _ => rfl) (by omega) hml
            subst hVA
            have HVV : Hid (∀ X, Below w.heap.size w X → IsR kcells vals (.slice (some va) vm vc) X) := Lib.hid (fun X hX => HATW.out.vals.below hX)
            obtain ⟨x, hx⟩ : ∃ x, x = vals[m] := ⟨_, rfl⟩
            have HXV : Hid (∀ hk : m < vals.length, x = vals[m]) := Lib.hid (fun _ => hx)
            have hxs : x.s.size ≤ maxLen := by rw [hx]; exact HATW.out.svals _ (List.getElem_mem hml)
            obtain ⟨ok, hok⟩ : ∃ ok, ok = hpsome kd x := ⟨_, rfl⟩
            have HSM := Lib.hid (fun X (hX : Below w.heap.size w X) => rsome18_any kd x X (Utf8Tabs_below HU.out hX) hxs)
            rw [← hok] at HSM
            have HOKX : Hid (ok = false → vals.all (hpsome kd) = false) := Lib.hid (fun h => by
              rw [List.all_eq_false]
              exact ⟨x, by rw [hx]; exact List.getElem_mem hml, by rw [← hok, h]; simp⟩)
            have HOKY : Hid (ok = true → (vals.take (m + 1)).all (hpsome kd) = true) := Lib.hid (fun h => by
              rw [List.take_succ_eq_append_getElem hml, List.all_append, HALL.out, ← hx]
              simp [← hok, h])
            clear hok hx hxs
            obtain ⟨xb, xn, xs⟩ := x
            go_wp2_with fail
            refine wp_region_list [.is (.slice (some cad) cn cc), .is (.pointer (some ⟨wz.heap.size, 1, none⟩)), .is (.int .i64 (cx : Int)), .is (.pointer (some (cad.add (cx * 2)))), .is (.pointer (some ((cad.add (cx * 2)).add 1))), .is (.int .i64 kd), .is (.pointer (some ⟨wz.heap.size, 5, none⟩)), .is (.slice (some va) vm vc), .is (.int .i64 (m : Int)), .is (.pointer (some (va.add (m * 3)))), .is (cv ⟨xb, xn, xs⟩), .is (.bool ok), .is (.bool ok)] [some 151, some 152, some 153, some 154, some 155, some 156, some 157, some 158, some 159, some 160, some 161, some 162, some 12] (by kernel_rfl) (by kernel_rfl) (by kernel_rfl) rfl ⟨?_, ?_, ?_, ?_, ?_, ?_, ?_, ?_, ?_, ?_, ?_, ?_, ?_, trivial⟩ ?_
            · intro ρ W1 hb1 H
              exact gives_move rfl (H.old 0 _ (by kernel_rfl) rfl) ⟨rfl, Below.refl _ _⟩
            · intro ρ W1 hb1 H
              exact gives_field rfl (H.old 7 _ (by kernel_rfl) rfl) (fun W => pred_at1 W wz.heap.size) ⟨rfl, Below.refl _ _⟩
            · intro ρ W1 hb1 H
              exact gives_load rfl (H.new 152 1 (by kernel_rfl)) Tryd.underlying3 rfl ((hb1.cell HBX2.out.lt).trans (HBX2.out.cell 1)) ⟨rfl, Below.refl _ _⟩
            · intro ρ W1 hb1 H
              exact gives_index_wide (k := cx) Tryd.underlying22 col_sizeH rfl (H.new 151 0 (by kernel_rfl)) (H.new 153 2 (by kernel_rfl)) (by omega) ⟨rfl, Below.refl _ _⟩
            · intro ρ W1 hb1 H
              exact gives_field rfl (H.new 154 3 (by kernel_rfl)) (fun W => col_kindH W _) ⟨rfl, Below.refl _ _⟩
            · intro ρ W1 hb1 H
              exact gives_load rfl (H.new 155 4 (by kernel_rfl)) Tryd.underlying3 rfl (HKD.out W1 (HBX1W.out.trans (hb1.mono HBX1W.out.size))) ⟨rfl, Below.refl _ _⟩
            · intro ρ W1 hb1 H
              exact gives_field rfl (H.old 7 _ (by kernel_rfl) rfl) (fun W => pred_at3 W wz.heap.size) ⟨rfl, Below.refl _ _⟩
            · intro ρ W1 hb1 H
              exact gives_load rfl (H.new 157 6 (by kernel_rfl)) Tryd.underlying31 rfl ((hb1.cell HBX2.out.lt).trans (HBX2.out.cell 5)) ⟨rfl, Below.refl _ _⟩
            · intro ρ W1 hb1 H
              exact gives_move rfl (H.old 11 _ (by kernel_rfl) rfl) ⟨rfl, Below.refl _ _⟩
            · intro ρ W1 hb1 H
              exact gives_index_wide (k := m) Tryd.underlying31 cv_sizeH rfl (H.new 158 7 (by kernel_rfl)) (H.new 159 8 (by kernel_rfl)) (by omega) ⟨rfl, Below.refl _ _⟩
            · intro ρ W1 hb1 H
              exact gives_load_wide (cs := kcells ⟨xb, xn, xs⟩) rfl (H.new 160 9 (by kernel_rfl)) Tryd.underlying41 rfl cv_sizeH (wide_atH HXV.out (HVV.out W1 (HBX1W.out.trans (hb1.mono HBX1W.out.size))) hml) ⟨rfl, Below.refl _ _⟩
            · intro ρ W1 hb1 H
              have e0 : ρ (.tmp 156) = .int .i64 kd := H.new 156 5 (by kernel_rfl)
              have e1 : ρ (.tmp 161) = cv ⟨xb, xn, xs⟩ := H.new 161 10 (by kernel_rfl)
              refine gives_call rfl (fun _ _ => by kernel_rfl) (H.func _) (args := #[.int .i64 kd, cv ⟨xb, xn, xs⟩]) (by simp [e0, e1]) ?_
              exact (HSM.out W1 (HBX1W.out.trans (hb1.mono HBX1W.out.size))).mono fun e w' ⟨h1, h2⟩ => ⟨_, h1, rfl, h2⟩
            · intro ρ W1 hb1 H
              exact gives_assign rfl (H.new 162 11 (by kernel_rfl)) ⟨rfl, Below.refl _ _⟩
            · intro vs W1 hb1 hfs
              have f12 : vs 12 = .bool ok := hfs 12 (by decide)
              clear hfs
              simp only [putAll, Nat.zero_add, Nat.reduceAdd]
              generalize vs 0 = z0
              generalize vs 1 = z1
              generalize vs 2 = z2
              generalize vs 3 = z3
              generalize vs 4 = z4
              generalize vs 5 = z5
              generalize vs 6 = z6
              generalize vs 7 = z7
              generalize vs 8 = z8
              generalize vs 9 = z9
              generalize vs 10 = z10
              generalize vs 11 = z11
              simp only [f12, Act.put, List.setIfInBounds_toArray, List.set_cons_succ, List.set_cons_zero]
              clear f12
              have HBY := Lib.hid (HBX1W.out.trans (hb1.mono HBX1W.out.size))
              have HBI := Lib.hid (HBIN.out.trans (hb1.mono HBIN.out.size))
              clear hb1
              cases ok with
              | false =>
                have HF : Hid (hpmayE (hpks cols) l = false) := Lib.hid (hpmay_no hjl HDS.out (.inl (by rw [← HX.out]; have := HCN.out; unfold hpnode; dsimp only; rw [if_neg (by omega), if_neg (by unfold hpks; simp only [List.length_map]; omega), if_neg (by omega), if_pos ⟨rfl, .inl (by rw [HGK.out]; exact HOKX.out rfl)⟩])))
                go_wp2
                go_ret
                exact ⟨by rw [HF.out]; rfl, HBY.out⟩
              | true =>
                have HNX := Lib.hid (HOKY.out rfl)
                go_wp2
                go_roundw
                case rel => exact ⟨m + 1, hml, by go_num, HNX.out, HBI.out⟩
                case measure => simp [intOf]; omega
          · obtain rfl : m = vm := by omega
            have hlti : ¬ (m : Int) < (m : Int) := by omega
            have HALLE : Hid (vals.all (hpsome kd) = true) := Lib.hid (by
              have h := HALL.out
              rw [List.take_of_length_le (by have := HVM.out; omega)] at h
              exact h)
            rcases Nat.eq_zero_or_pos m with rfl | hm0
            · have HVM0 := HVM
              have e0 : decide (((0 : Nat) : Int) < 1) = true := by decide
              have HF : Hid (hpmayE (hpks cols) l = false) := Lib.hid (hpmay_no hjl HDS.out (.inl (by rw [← HX.out]; have := HCN.out; unfold hpnode; dsimp only; rw [if_neg (by omega), if_neg (by unfold hpks; simp only [List.length_map]; omega), if_neg (by omega), if_pos ⟨rfl, .inr (by have := HVM.out; omega)⟩])))
              go_wp2
              go_ret
              exact ⟨by rw [HF.out]; rfl, HBX1W.out⟩
            have e0 : decide ((m : Int) < 1) = false := decide_eq_false (by omega)
            by_cases h10 : 10 < m
            · have e1 : decide ((10 : Int) < (m : Int)) = true := decide_eq_true (by omega)
              have HF : Hid (hpmayE (hpks cols) l = false) := Lib.hid (hpmay_no hjl HDS.out (.inl (by rw [← HX.out]; have := HCN.out; unfold hpnode; dsimp only; rw [if_neg (by omega), if_neg (by unfold hpks; simp only [List.length_map]; omega), if_neg (by omega), if_pos ⟨rfl, .inr (by have := HVM.out; omega)⟩])))
              go_wp2
              go_ret
              exact ⟨by rw [HF.out]; rfl, HBX1W.out⟩
            have e1 : decide ((10 : Int) < (m : Int)) = false := decide_eq_false (by omega)
            have HD : Hid (hpnode (hpks cols) ds ⟨7, (cx : Int), ⟨nb, nn, ns⟩, vals, ls, .slice vA m vc, .slice lA lm lc⟩ = some 0) := Lib.hid (by
              have := HCN.out
              have := HVM.out
              unfold hpnode
              dsimp only
              rw [if_neg (by omega), if_neg (by unfold hpks; simp only [List.length_map]; omega), if_neg (by omega), if_neg]
              rw [HGK.out]
              rintro ⟨_, h | h⟩
              · rw [HALLE.out] at h; cases h
              · omega)
            have hownP := HOWI.out
            have hbwP := HBX1W.out
            have hzP := HBX1W.out.size
            go_wp2_with (at_builtin; refine wpList_pushH elemI rfl _ _ rfl w.heap.size _ _ _ (iv (1)) _ w _ rfl rfl rfl rfl rfl hownP hbwP hzP (by omega) (by omega) ?_)
            intro v7 w7 hown7 hb7 _ _
            clear hownP hbwP hzP
            by_cases h6 : (6 : Int) < 1
            · have HF : Hid (hpmayE (hpks cols) l = false) := Lib.hid (hpmay_no hjl HDS.out (.inr ⟨_, by rw [← HX.out]; exact HD.out, h6⟩))
              have HB7 := Lib.hid hb7
              have d6 : decide ((6 : Int) < 1) = true := decide_eq_true h6
              clear hown7 hb7
              go_wp2
              go_ret
              exact ⟨by rw [HF.out]; rfl, HB7.out⟩
            · have d6 : decide ((6 : Int) < 1) = false := decide_eq_false h6
              have HREL : Hid (HMayRel (hpks cols) l w v7 (.int .i64 ((j : Int) + 1)) w7) := Lib.hid ⟨j + 1, _, hjl, by go_num, hpdepths_next hjl HDS.out (by rw [← HX.out]; exact HD.out) (by omega), getD_snoc6 HDR.out (by omega), by rw [List.map_append]; exact hown7, hb7⟩
              clear hown7 hb7
              go_wp2
              go_roundw
              case rel => exact HREL.out
              case measure => simp [intOf]; omega
      have o8 : (op == 7) = false := by simpa using h7
      have hv46 : op = 4 ∨ op = 5 ∨ op = 6 := by have := HL47.out; omega
      obtain ⟨ok, hok⟩ : ∃ ok, ok = hpsome kd ⟨nb, nn, ns⟩ := ⟨_, rfl⟩
      have HOK := Lib.hid hok
      have HSM := Lib.hid (fun X (hX : Below w.heap.size w X) => rsome18_any kd ⟨nb, nn, ns⟩ X (Utf8Tabs_below HU.out hX) HAT.out.sv)
      rw [← hok] at HSM
      clear hok
      obtain ⟨WX, hWX⟩ : ∃ WX, WX = (wr.alloc (.cells #[.int .i64 op, .int .i64 (cx : Int), .bool nb, .int .i64 nn, .string ns, .slice vA vm vc, .slice lA lm lc] 51)) := ⟨_, rfl⟩
      have HBX1W : Hid (Below w.heap.size w WX) := Lib.hid (by rw [hWX]; exact HBW1.out)
      have HBX2 : Hid (Row WX wr.heap.size 51 [.int .i64 op, .int .i64 (cx : Int), .bool nb, .int .i64 nn, .string ns, .slice vA vm vc, .slice lA lm lc]) := Lib.hid (by rw [hWX]; exact HBX.out)
      have b0 := HBX.out.cell 0
      have b1 := HBX.out.cell 1
      have b2 := HBX.out.cell 2
      have b3 := HBX.out.cell 3
      have b4 := HBX.out.cell 4
      have b5 := HBX.out.cell 5
      have b6 := HBX.out.cell 6
      have HO46 := Lib.hid hv46
      rcases hv46 with rfl | rfl | rfl
      · have HOWN1X : Hid (WX.ownsRow w.heap.size 3 1 (.slice oA on oc) j (ds.map iv)) := Lib.hid (by rw [hWX]; exact HOWN1.out)
        subst hWX
        go_wp2_with fail
        refine wp_region_list [.is (.slice (some cad) cn cc), .is (.pointer (some ⟨wr.heap.size, 1, none⟩)), .is (.int .i64 (cx : Int)), .is (.pointer (some (cad.add (cx * 2)))), .is (.pointer (some ((cad.add (cx * 2)).add 1))), .is (.int .i64 kd), .is (.pointer (some ⟨wr.heap.size, 2, none⟩)), .is (cv ⟨nb, nn, ns⟩), .is (.bool ok), .is (.bool ok)] [some 130, some 131, some 132, some 133, some 134, some 135, some 136, some 137, some 138, some 10] (by kernel_rfl) (by kernel_rfl) (by kernel_rfl) rfl ⟨?_, ?_, ?_, ?_, ?_, ?_, ?_, ?_, ?_, ?_, trivial⟩ ?_
        · intro ρ W1 hb1 H
          exact gives_move rfl (H.old 0 _ (by kernel_rfl) rfl) ⟨rfl, Below.refl _ _⟩
        · intro ρ W1 hb1 H
          exact gives_field rfl (H.old 7 _ (by kernel_rfl) rfl) (fun W => pred_at1 W wr.heap.size) ⟨rfl, Below.refl _ _⟩
        · intro ρ W1 hb1 H
          exact gives_load rfl (H.new 131 1 (by kernel_rfl)) Tryd.underlying3 rfl ((hb1.cell HBX2.out.lt).trans (HBX2.out.cell 1)) ⟨rfl, Below.refl _ _⟩
        · intro ρ W1 hb1 H
          exact gives_index_wide (k := cx) Tryd.underlying22 col_sizeH rfl (H.new 130 0 (by kernel_rfl)) (H.new 132 2 (by kernel_rfl)) (by omega) ⟨rfl, Below.refl _ _⟩
        · intro ρ W1 hb1 H
          exact gives_field rfl (H.new 133 3 (by kernel_rfl)) (fun W => col_kindH W _) ⟨rfl, Below.refl _ _⟩
        · intro ρ W1 hb1 H
          exact gives_load rfl (H.new 134 4 (by kernel_rfl)) Tryd.underlying3 rfl (HKD.out W1 (HBX1W.out.trans (hb1.mono HBX1W.out.size))) ⟨rfl, Below.refl _ _⟩
        · intro ρ W1 hb1 H
          exact gives_field rfl (H.old 7 _ (by kernel_rfl) rfl) (fun W => pred_at2 W wr.heap.size) ⟨rfl, Below.refl _ _⟩
        · intro ρ W1 hb1 H
          exact gives_load_wide (cs := kcells ⟨nb, nn, ns⟩) rfl (H.new 136 6 (by kernel_rfl)) Tryd.underlying41 rfl cv_sizeH (row_atH (HBX2.out.below hb1 HBX2.out.lt) 2 (by intro q hq; rcases (by omega : q = 0 ∨ q = 1 ∨ q = 2) with rfl | rfl | rfl <;> rfl)) ⟨rfl, Below.refl _ _⟩
        · intro ρ W1 hb1 H
          have e0 : ρ (.tmp 135) = .int .i64 kd := H.new 135 5 (by kernel_rfl)
          have e1 : ρ (.tmp 137) = cv ⟨nb, nn, ns⟩ := H.new 137 7 (by kernel_rfl)
          refine gives_call rfl (fun _ _ => by kernel_rfl) (H.func _) (args := #[.int .i64 kd, cv ⟨nb, nn, ns⟩]) (by simp [e0, e1]) ?_
          exact (HSM.out W1 (HBW1.out.trans (hb1.mono HBW1.out.size))).mono fun e w' ⟨h1, h2⟩ => ⟨_, h1, rfl, h2⟩
        · intro ρ W1 hb1 H
          exact gives_assign rfl (H.new 138 8 (by kernel_rfl)) ⟨rfl, Below.refl _ _⟩
        · intro vs W1 hb1 hfs
          have f9 : vs 9 = .bool ok := hfs 9 (by decide)
          clear hfs
          simp only [putAll, Nat.zero_add, Nat.reduceAdd]
          generalize vs 0 = z0
          generalize vs 1 = z1
          generalize vs 2 = z2
          generalize vs 3 = z3
          generalize vs 4 = z4
          generalize vs 5 = z5
          generalize vs 6 = z6
          generalize vs 7 = z7
          generalize vs 8 = z8
          simp only [f9, Act.put, List.setIfInBounds_toArray, List.set_cons_succ, List.set_cons_zero]
          clear f9
          have HBY := Lib.hid (HBX1W.out.trans (hb1.mono HBX1W.out.size))
          have HOWY := Lib.hid (own_below HOWN1X.out hb1)
          have HBXY := Lib.hid (HBX2.out.below hb1 HBX2.out.lt)
          have b0 := HBXY.out.cell 0
          clear hb1
          cases ok with
          | false =>
            have HF : Hid (hpmayE (hpks cols) l = false) := Lib.hid (hpmay_no hjl HDS.out (.inl (by rw [← HX.out]; have := HCN.out; have h := HOK.out; unfold hpnode; dsimp only; rw [if_neg (by omega), if_neg (by unfold hpks; simp only [List.length_map]; omega), if_pos ⟨by omega, by rw [HGK.out]; exact h.symm⟩])))
            go_wp2
            go_ret
            exact ⟨by rw [HF.out]; rfl, HBY.out⟩
          | true =>
            have HD : Hid (hpnode (hpks cols) ds ⟨4, (cx : Int), ⟨nb, nn, ns⟩, vals, ls, .slice vA vm vc, .slice lA lm lc⟩ = some 0) := Lib.hid (by
              have := HCN.out
              have h := HOK.out
              unfold hpnode
              dsimp only
              rw [if_neg (by omega), if_neg (by unfold hpks; simp only [List.length_map]; omega), if_neg (by rw [HGK.out, ← h]; simp), if_neg (by omega)])
            have hownP := HOWY.out
            have hbwP := HBY.out
            have hzP := HBY.out.size
            go_wp2_with (at_builtin; refine wpList_pushH elemI rfl _ _ rfl w.heap.size _ _ _ (iv (1)) _ w _ rfl rfl rfl rfl rfl hownP hbwP hzP (by omega) (by omega) ?_)
            intro v7 w7 hown7 hb7 _ _
            clear hownP hbwP hzP
            by_cases h6 : (6 : Int) < 1
            · have HF : Hid (hpmayE (hpks cols) l = false) := Lib.hid (hpmay_no hjl HDS.out (.inr ⟨_, by rw [← HX.out]; exact HD.out, h6⟩))
              have HB7 := Lib.hid hb7
              have d6 : decide ((6 : Int) < 1) = true := decide_eq_true h6
              clear hown7 hb7
              go_wp2
              go_ret
              exact ⟨by rw [HF.out]; rfl, HB7.out⟩
            · have d6 : decide ((6 : Int) < 1) = false := decide_eq_false h6
              have HREL : Hid (HMayRel (hpks cols) l w v7 (.int .i64 ((j : Int) + 1)) w7) := Lib.hid ⟨j + 1, _, hjl, by go_num, hpdepths_next hjl HDS.out (by rw [← HX.out]; exact HD.out) (by omega), getD_snoc6 HDR.out (by omega), by rw [List.map_append]; exact hown7, hb7⟩
              clear hown7 hb7
              go_wp2
              go_roundw
              case rel => exact HREL.out
              case measure => simp [intOf]; omega
      · have HOWN1X : Hid (WX.ownsRow w.heap.size 3 1 (.slice oA on oc) j (ds.map iv)) := Lib.hid (by rw [hWX]; exact HOWN1.out)
        subst hWX
        go_wp2_with fail
        refine wp_region_list [.is (.slice (some cad) cn cc), .is (.pointer (some ⟨wr.heap.size, 1, none⟩)), .is (.int .i64 (cx : Int)), .is (.pointer (some (cad.add (cx * 2)))), .is (.pointer (some ((cad.add (cx * 2)).add 1))), .is (.int .i64 kd), .is (.pointer (some ⟨wr.heap.size, 2, none⟩)), .is (cv ⟨nb, nn, ns⟩), .is (.bool ok), .is (.bool ok)] [some 130, some 131, some 132, some 133, some 134, some 135, some 136, some 137, some 138, some 10] (by kernel_rfl) (by kernel_rfl) (by kernel_rfl) rfl ⟨?_, ?_, ?_, ?_, ?_, ?_, ?_, ?_, ?_, ?_, trivial⟩ ?_
        · intro ρ W1 hb1 H
          exact gives_move rfl (H.old 0 _ (by kernel_rfl) rfl) ⟨rfl, Below.refl _ _⟩
        · intro ρ W1 hb1 H
          exact gives_field rfl (H.old 7 _ (by kernel_rfl) rfl) (fun W => pred_at1 W wr.heap.size) ⟨rfl, Below.refl _ _⟩
        · intro ρ W1 hb1 H
          exact gives_load rfl (H.new 131 1 (by kernel_rfl)) Tryd.underlying3 rfl ((hb1.cell HBX2.out.lt).trans (HBX2.out.cell 1)) ⟨rfl, Below.refl _ _⟩
        · intro ρ W1 hb1 H
          exact gives_index_wide (k := cx) Tryd.underlying22 col_sizeH rfl (H.new 130 0 (by kernel_rfl)) (H.new 132 2 (by kernel_rfl)) (by omega) ⟨rfl, Below.refl _ _⟩
        · intro ρ W1 hb1 H
          exact gives_field rfl (H.new 133 3 (by kernel_rfl)) (fun W => col_kindH W _) ⟨rfl, Below.refl _ _⟩
        · intro ρ W1 hb1 H
          exact gives_load rfl (H.new 134 4 (by kernel_rfl)) Tryd.underlying3 rfl (HKD.out W1 (HBX1W.out.trans (hb1.mono HBX1W.out.size))) ⟨rfl, Below.refl _ _⟩
        · intro ρ W1 hb1 H
          exact gives_field rfl (H.old 7 _ (by kernel_rfl) rfl) (fun W => pred_at2 W wr.heap.size) ⟨rfl, Below.refl _ _⟩
        · intro ρ W1 hb1 H
          exact gives_load_wide (cs := kcells ⟨nb, nn, ns⟩) rfl (H.new 136 6 (by kernel_rfl)) Tryd.underlying41 rfl cv_sizeH (row_atH (HBX2.out.below hb1 HBX2.out.lt) 2 (by intro q hq; rcases (by omega : q = 0 ∨ q = 1 ∨ q = 2) with rfl | rfl | rfl <;> rfl)) ⟨rfl, Below.refl _ _⟩
        · intro ρ W1 hb1 H
          have e0 : ρ (.tmp 135) = .int .i64 kd := H.new 135 5 (by kernel_rfl)
          have e1 : ρ (.tmp 137) = cv ⟨nb, nn, ns⟩ := H.new 137 7 (by kernel_rfl)
          refine gives_call rfl (fun _ _ => by kernel_rfl) (H.func _) (args := #[.int .i64 kd, cv ⟨nb, nn, ns⟩]) (by simp [e0, e1]) ?_
          exact (HSM.out W1 (HBW1.out.trans (hb1.mono HBW1.out.size))).mono fun e w' ⟨h1, h2⟩ => ⟨_, h1, rfl, h2⟩
        · intro ρ W1 hb1 H
          exact gives_assign rfl (H.new 138 8 (by kernel_rfl)) ⟨rfl, Below.refl _ _⟩
        · intro vs W1 hb1 hfs
          have f9 : vs 9 = .bool ok := hfs 9 (by decide)
          clear hfs
          simp only [putAll, Nat.zero_add, Nat.reduceAdd]
          generalize vs 0 = z0
          generalize vs 1 = z1
          generalize vs 2 = z2
          generalize vs 3 = z3
          generalize vs 4 = z4
          generalize vs 5 = z5
          generalize vs 6 = z6
          generalize vs 7 = z7
          generalize vs 8 = z8
          simp only [f9, Act.put, List.setIfInBounds_toArray, List.set_cons_succ, List.set_cons_zero]
          clear f9
          have HBY := Lib.hid (HBX1W.out.trans (hb1.mono HBX1W.out.size))
          have HOWY := Lib.hid (own_below HOWN1X.out hb1)
          have HBXY := Lib.hid (HBX2.out.below hb1 HBX2.out.lt)
          have b0 := HBXY.out.cell 0
          clear hb1
          cases ok with
          | false =>
            have HF : Hid (hpmayE (hpks cols) l = false) := Lib.hid (hpmay_no hjl HDS.out (.inl (by rw [← HX.out]; have := HCN.out; have h := HOK.out; unfold hpnode; dsimp only; rw [if_neg (by omega), if_neg (by unfold hpks; simp only [List.length_map]; omega), if_pos ⟨by omega, by rw [HGK.out]; exact h.symm⟩])))
            go_wp2
            go_ret
            exact ⟨by rw [HF.out]; rfl, HBY.out⟩
          | true =>
            have HD : Hid (hpnode (hpks cols) ds ⟨5, (cx : Int), ⟨nb, nn, ns⟩, vals, ls, .slice vA vm vc, .slice lA lm lc⟩ = some 0) := Lib.hid (by
              have := HCN.out
              have h := HOK.out
              unfold hpnode
              dsimp only
              rw [if_neg (by omega), if_neg (by unfold hpks; simp only [List.length_map]; omega), if_neg (by rw [HGK.out, ← h]; simp), if_neg (by omega)])
            have hownP := HOWY.out
            have hbwP := HBY.out
            have hzP := HBY.out.size
            go_wp2_with (at_builtin; refine wpList_pushH elemI rfl _ _ rfl w.heap.size _ _ _ (iv (1)) _ w _ rfl rfl rfl rfl rfl hownP hbwP hzP (by omega) (by omega) ?_)
            intro v7 w7 hown7 hb7 _ _
            clear hownP hbwP hzP
            by_cases h6 : (6 : Int) < 1
            · have HF : Hid (hpmayE (hpks cols) l = false) := Lib.hid (hpmay_no hjl HDS.out (.inr ⟨_, by rw [← HX.out]; exact HD.out, h6⟩))
              have HB7 := Lib.hid hb7
              have d6 : decide ((6 : Int) < 1) = true := decide_eq_true h6
              clear hown7 hb7
              go_wp2
              go_ret
              exact ⟨by rw [HF.out]; rfl, HB7.out⟩
            · have d6 : decide ((6 : Int) < 1) = false := decide_eq_false h6
              have HREL : Hid (HMayRel (hpks cols) l w v7 (.int .i64 ((j : Int) + 1)) w7) := Lib.hid ⟨j + 1, _, hjl, by go_num, hpdepths_next hjl HDS.out (by rw [← HX.out]; exact HD.out) (by omega), getD_snoc6 HDR.out (by omega), by rw [List.map_append]; exact hown7, hb7⟩
              clear hown7 hb7
              go_wp2
              go_roundw
              case rel => exact HREL.out
              case measure => simp [intOf]; omega
      · have HOWN1X : Hid (WX.ownsRow w.heap.size 3 1 (.slice oA on oc) j (ds.map iv)) := Lib.hid (by rw [hWX]; exact HOWN1.out)
        subst hWX
        go_wp2_with fail
        refine wp_region_list [.is (.slice (some cad) cn cc), .is (.pointer (some ⟨wr.heap.size, 1, none⟩)), .is (.int .i64 (cx : Int)), .is (.pointer (some (cad.add (cx * 2)))), .is (.pointer (some ((cad.add (cx * 2)).add 1))), .is (.int .i64 kd), .is (.pointer (some ⟨wr.heap.size, 2, none⟩)), .is (cv ⟨nb, nn, ns⟩), .is (.bool ok), .is (.bool ok)] [some 130, some 131, some 132, some 133, some 134, some 135, some 136, some 137, some 138, some 10] (by kernel_rfl) (by kernel_rfl) (by kernel_rfl) rfl ⟨?_, ?_, ?_, ?_, ?_, ?_, ?_, ?_, ?_, ?_, trivial⟩ ?_
        · intro ρ W1 hb1 H
          exact gives_move rfl (H.old 0 _ (by kernel_rfl) rfl) ⟨rfl, Below.refl _ _⟩
        · intro ρ W1 hb1 H
          exact gives_field rfl (H.old 7 _ (by kernel_rfl) rfl) (fun W => pred_at1 W wr.heap.size) ⟨rfl, Below.refl _ _⟩
        · intro ρ W1 hb1 H
          exact gives_load rfl (H.new 131 1 (by kernel_rfl)) Tryd.underlying3 rfl ((hb1.cell HBX2.out.lt).trans (HBX2.out.cell 1)) ⟨rfl, Below.refl _ _⟩
        · intro ρ W1 hb1 H
          exact gives_index_wide (k := cx) Tryd.underlying22 col_sizeH rfl (H.new 130 0 (by kernel_rfl)) (H.new 132 2 (by kernel_rfl)) (by omega) ⟨rfl, Below.refl _ _⟩
        · intro ρ W1 hb1 H
          exact gives_field rfl (H.new 133 3 (by kernel_rfl)) (fun W => col_kindH W _) ⟨rfl, Below.refl _ _⟩
        · intro ρ W1 hb1 H
          exact gives_load rfl (H.new 134 4 (by kernel_rfl)) Tryd.underlying3 rfl (HKD.out W1 (HBX1W.out.trans (hb1.mono HBX1W.out.size))) ⟨rfl, Below.refl _ _⟩
        · intro ρ W1 hb1 H
          exact gives_field rfl (H.old 7 _ (by kernel_rfl) rfl) (fun W => pred_at2 W wr.heap.size) ⟨rfl, Below.refl _ _⟩
        · intro ρ W1 hb1 H
          exact gives_load_wide (cs := kcells ⟨nb, nn, ns⟩) rfl (H.new 136 6 (by kernel_rfl)) Tryd.underlying41 rfl cv_sizeH (row_atH (HBX2.out.below hb1 HBX2.out.lt) 2 (by intro q hq; rcases (by omega : q = 0 ∨ q = 1 ∨ q = 2) with rfl | rfl | rfl <;> rfl)) ⟨rfl, Below.refl _ _⟩
        · intro ρ W1 hb1 H
          have e0 : ρ (.tmp 135) = .int .i64 kd := H.new 135 5 (by kernel_rfl)
          have e1 : ρ (.tmp 137) = cv ⟨nb, nn, ns⟩ := H.new 137 7 (by kernel_rfl)
          refine gives_call rfl (fun _ _ => by kernel_rfl) (H.func _) (args := #[.int .i64 kd, cv ⟨nb, nn, ns⟩]) (by simp [e0, e1]) ?_
          exact (HSM.out W1 (HBW1.out.trans (hb1.mono HBW1.out.size))).mono fun e w' ⟨h1, h2⟩ => ⟨_, h1, rfl, h2⟩
        · intro ρ W1 hb1 H
          exact gives_assign rfl (H.new 138 8 (by kernel_rfl)) ⟨rfl, Below.refl _ _⟩
        · intro vs W1 hb1 hfs
          have f9 : vs 9 = .bool ok := hfs 9 (by decide)
          clear hfs
          simp only [putAll, Nat.zero_add, Nat.reduceAdd]
          generalize vs 0 = z0
          generalize vs 1 = z1
          generalize vs 2 = z2
          generalize vs 3 = z3
          generalize vs 4 = z4
          generalize vs 5 = z5
          generalize vs 6 = z6
          generalize vs 7 = z7
          generalize vs 8 = z8
          simp only [f9, Act.put, List.setIfInBounds_toArray, List.set_cons_succ, List.set_cons_zero]
          clear f9
          have HBY := Lib.hid (HBX1W.out.trans (hb1.mono HBX1W.out.size))
          have HOWY := Lib.hid (own_below HOWN1X.out hb1)
          have HBXY := Lib.hid (HBX2.out.below hb1 HBX2.out.lt)
          have b0 := HBXY.out.cell 0
          clear hb1
          cases ok with
          | false =>
            have HF : Hid (hpmayE (hpks cols) l = false) := Lib.hid (hpmay_no hjl HDS.out (.inl (by rw [← HX.out]; have := HCN.out; have h := HOK.out; unfold hpnode; dsimp only; rw [if_neg (by omega), if_neg (by unfold hpks; simp only [List.length_map]; omega), if_pos ⟨by omega, by rw [HGK.out]; exact h.symm⟩])))
            go_wp2
            go_ret
            exact ⟨by rw [HF.out]; rfl, HBY.out⟩
          | true =>
            have HD : Hid (hpnode (hpks cols) ds ⟨6, (cx : Int), ⟨nb, nn, ns⟩, vals, ls, .slice vA vm vc, .slice lA lm lc⟩ = some 0) := Lib.hid (by
              have := HCN.out
              have h := HOK.out
              unfold hpnode
              dsimp only
              rw [if_neg (by omega), if_neg (by unfold hpks; simp only [List.length_map]; omega), if_neg (by rw [HGK.out, ← h]; simp), if_neg (by omega)])
            have hownP := HOWY.out
            have hbwP := HBY.out
            have hzP := HBY.out.size
            go_wp2_with (at_builtin; refine wpList_pushH elemI rfl _ _ rfl w.heap.size _ _ _ (iv (1)) _ w _ rfl rfl rfl rfl rfl hownP hbwP hzP (by omega) (by omega) ?_)
            intro v7 w7 hown7 hb7 _ _
            clear hownP hbwP hzP
            by_cases h6 : (6 : Int) < 1
            · have HF : Hid (hpmayE (hpks cols) l = false) := Lib.hid (hpmay_no hjl HDS.out (.inr ⟨_, by rw [← HX.out]; exact HD.out, h6⟩))
              have HB7 := Lib.hid hb7
              have d6 : decide ((6 : Int) < 1) = true := decide_eq_true h6
              clear hown7 hb7
              go_wp2
              go_ret
              exact ⟨by rw [HF.out]; rfl, HB7.out⟩
            · have d6 : decide ((6 : Int) < 1) = false := decide_eq_false h6
              have HREL : Hid (HMayRel (hpks cols) l w v7 (.int .i64 ((j : Int) + 1)) w7) := Lib.hid ⟨j + 1, _, hjl, by go_num, hpdepths_next hjl HDS.out (by rw [← HX.out]; exact HD.out) (by omega), getD_snoc6 HDR.out (by omega), by rw [List.map_append]; exact hown7, hb7⟩
              clear hown7 hb7
              go_wp2
              go_roundw
              case rel => exact HREL.out
              case measure => simp [intOf]; omega
    · obtain rfl : j = n := by omega
      have hlti : ¬ (j : Int) < (j : Int) := by omega
      have HF : Hid (hpmayE (hpks cols) l = true) := Lib.hid (by
        have h := HDS.out
        rw [List.take_of_length_le (by have := HN.out; omega)] at h
        exact hpmay_yes (by have := HN.out; omega) (by have := HN.out; omega) h)
      go_wp2
      go_ret
      exact ⟨by rw [HF.out]; rfl, HBW.out⟩
end Go.Proofs.YtniniophoocalaaDoor

/- The contract of layer 18's reference: known. Written by gen_hknown.py. -/





namespace Go.Proofs.YtniniophoocalaaDoor

open Go.RowKit

def t3v (t : T3) : Value := .agg #[.bool t.no, .bool t.un, .bool t.yes]
theorem infoA_size : (Tryd.prog.info? 44).map (·.size) = some 3 := by kernel_rfl
theorem t3_one (a b c : Bool) : ∀ u ∈ [Value.bool a, .bool b, .bool c], u.oneCell' = true := by simp [Value.oneCell']
theorem cells10 {w : World} {ad : Addr} {k : Nat} {x : GS} (h : ∀ i, i < 10 → w.cell? (ad.add (k * 10 + i)) = (gcells x)[i]?) (i : Nat) (hi : i < 9) :
    w.cell? (ad.add (k * 10)) = some (.int .i64 x.count) ∧ w.cell? ⟨(ad.add (k * 10)).block, (ad.add (k * 10)).off + (i + 1), none⟩ = (gcells x)[i + 1]? := by
  refine ⟨h 0 (by omega), ?_⟩
  have h1 := h (i + 1) (by omega); rw [← add_add] at h1; exact h1
def HKnRel (vals : List CV) (mn mx : CV) (gh : Bool) (sc pcs : List Value) (w : World) (one i : Value) (wr : World) : Prop :=
  ∃ j : Nat, j ≤ vals.length ∧ i = .int .i64 (j : Int) ∧ one = .bool ((vals.take j).any fun x => kcmp x mn == 0) ∧
    Row wr (w.heap.size + 3) 44 [.bool false, .bool gh, .bool ((vals.take j).any fun x => decide (0 ≤ kcmp x mn) && decide (kcmp x mx ≤ 0))] ∧
    Row wr (w.heap.size + 1) 44 [.bool false, .bool false, .bool false] ∧ Row wr (w.heap.size + 2) 43 sc ∧ Row wr w.heap.size 51 pcs ∧ Below w.heap.size w wr
set_option maxHeartbeats 8000000 in
set_option maxRecDepth 100000 in
theorem rknown18_any (n : HN) (l : List GS) (sv : Value) (w : World) (hn : HAt n w) (hs : IsR gcells l sv w) (hop : 4 ≤ n.op ∧ n.op ≤ 9) (hcol : n.op ≠ 9 → 0 ≤ n.col ∧ n.col < (l.length : Int)) (_hb : l.length ≤ 1000000) (hvl : n.op = 7 → n.vals.length ≤ 1000000) :
    Calls Tryd.prog 35 #[hpv n, sv] w fun e w' => e = .returned (t3v (hpknown n l)) ∧ Below w.heap.size w w' := by
  obtain ⟨op, col, ⟨nb, nn, ns⟩, vals, ls, vv, lv⟩ := n
  obtain ⟨vA, vm, vc, rfl⟩ := hn.vals.shape
  obtain ⟨lA, lm, lc, rfl⟩ := hn.ls.shape
  dsimp only at hop hcol hvl
  have HNA := Lib.hid hn
  obtain ⟨W2, hW2⟩ : ∃ W2, W2 = (w.alloc (.cells #[.int .i64 op, .int .i64 col, .bool nb, .int .i64 nn, .string ns, .slice vA vm vc, .slice lA lm lc] 51)).alloc (.cells #[.bool false, .bool false, .bool false] 44) := ⟨_, rfl⟩
  have hbA : Below w.heap.size w (w.alloc (.cells #[.int .i64 op, .int .i64 col, .bool nb, .int .i64 nn, .string ns, .slice vA vm vc, .slice lA lm lc] 51)) := (Below.refl _ _).alloc (Nat.le_refl _) _
  have hrA : Row (w.alloc (.cells #[.int .i64 op, .int .i64 col, .bool nb, .int .i64 nn, .string ns, .slice vA vm vc, .slice lA lm lc] 51)) w.heap.size 51 [.int .i64 op, .int .i64 col, .bool nb, .int .i64 nn, .string ns, .slice vA vm vc, .slice lA lm lc] := heap_alloc_new w _
  have hzA : (w.alloc (.cells #[.int .i64 op, .int .i64 col, .bool nb, .int .i64 nn, .string ns, .slice vA vm vc, .slice lA lm lc] 51)).heap.size = w.heap.size + 1 := by simp
  have RB2 : Hid (Row W2 w.heap.size 51 [.int .i64 op, .int .i64 col, .bool nb, .int .i64 nn, .string ns, .slice vA vm vc, .slice lA lm lc]) := Lib.hid (by rw [hW2]; exact hrA.alloc _)
  have RT2 : Hid (Row W2 (w.heap.size + 1) 44 [.bool false, .bool false, .bool false]) := Lib.hid (by rw [hW2, ← hzA]; exact heap_alloc_new _ _)
  have HB2 : Hid (Below w.heap.size w W2) := Lib.hid (by rw [hW2]; exact hbA.alloc (by omega) _)
  have HZ2 : Hid (W2.heap.size = w.heap.size + 2) := Lib.hid (by rw [hW2]; simp)
  unfold hpv hpcells
  dsimp only
  clear hbA hrA hzA
  by_cases h9 : op = 9
  · subst h9
    have HE := Lib.hid (show hpknown ⟨9, col, ⟨nb, nn, ns⟩, vals, ls, .slice vA vm vc, .slice lA lm lc⟩ l = ⟨false, false, true⟩ from rfl)
    have b0 := RB2.out.cell 0
    have hr3 : Row (w.alloc (.cells #[.int .i64 9, .int .i64 col, .bool nb, .int .i64 nn, .string ns, .slice vA vm vc, .slice lA lm lc] 51)) w.heap.size 51 [.int .i64 9, .int .i64 col, .bool nb, .int .i64 nn, .string ns, .slice vA vm vc, .slice lA lm lc] := heap_alloc_new w _
    have hz3 : (w.alloc (.cells #[.int .i64 9, .int .i64 col, .bool nb, .int .i64 nn, .string ns, .slice vA vm vc, .slice lA lm lc] 51)).heap.size = w.heap.size + 1 := by simp
    have HR : Hid (Row ((w.alloc (.cells #[.int .i64 9, .int .i64 col, .bool nb, .int .i64 nn, .string ns, .slice vA vm vc, .slice lA lm lc] 51)).alloc (.cells #[.bool false, .bool false, .bool true] 44)) (w.heap.size + 1) 44 [.bool false, .bool false, .bool true]) := Lib.hid (by rw [← hz3]; exact heap_alloc_new _ _)
    have HBF : Hid (Below w.heap.size w ((w.alloc (.cells #[.int .i64 9, .int .i64 col, .bool nb, .int .i64 nn, .string ns, .slice vA vm vc, .slice lA lm lc] 51)).alloc (.cells #[.bool false, .bool false, .bool true] 44))) := Lib.hid (((Below.refl _ _).alloc (Nat.le_refl _) _).alloc (by simp) _)
    clear hn hs hop hcol _hb hvl hr3 hz3
    subst hW2
    go_enter Tryd.func35, Tryd.ntmps35
    go_wp2
    refine bodyPost_ret (v := .agg #[.bool false, .bool false, .bool true]) (results_cell_row rfl _ _ (w.heap.size + 1) _ _ (0, 0) _ rfl HR.out Tryd.underlying44 rfl (by kernel_rfl)) rfl ?_
    exact ⟨by rw [HE.out]; rfl, HBF.out⟩
  obtain ⟨h0, h1⟩ := hcol h9
  obtain ⟨c, rfl⟩ := Int.eq_ofNat_of_zero_le h0
  have hcl : c < l.length := by omega
  have d9 : (op == 9) = false := by simpa using h9
  obtain ⟨A, sn, sc, rfl⟩ := hs.shape
  have hsn := hs.parts.1
  have hcs : c < sn := by omega
  have hcsi : (c : Int) < (sn : Int) := by omega
  obtain ⟨ad, rfl, had, hcell⟩ := (hs.below HB2.out).at (m := 10) (fun _ => rfl) (by omega) hcl
  obtain ⟨s, hsv⟩ : ∃ s, s = l[c] := ⟨_, rfl⟩
  have hgets : l.getD (c : Int).toNat hpnull = s := by rw [Int.toNat_natCast, hsv]; simp [List.getD, List.getElem?_eq_getElem hcl]
  rw [← hsv] at hcell
  have k0 := (cells10 hcell 0 (by omega)).1
  have k1 := (cells10 hcell 0 (by omega)).2
  have k2 := (cells10 hcell 1 (by omega)).2
  have k3 := (cells10 hcell 2 (by omega)).2
  have k4 := (cells10 hcell 3 (by omega)).2
  have k5 := (cells10 hcell 4 (by omega)).2
  have k6 := (cells10 hcell 5 (by omega)).2
  have k7 := (cells10 hcell 6 (by omega)).2
  have k8 := (cells10 hcell 7 (by omega)).2
  have k9 := (cells10 hcell 8 (by omega)).2
  obtain ⟨gc, gh, ⟨gmb, gmn, gms⟩, ⟨gxb, gxn, gxs⟩, gsm, go⟩ := s
  dsimp only [gcells] at k0 k1 k2 k3 k4 k5 k6 k7 k8 k9
  obtain ⟨W3, hW3⟩ : ∃ W3, W3 = W2.alloc (.cells #[.int .i64 gc, .bool gh, .bool gmb, .int .i64 gmn, .string gms, .bool gxb, .int .i64 gxn, .string gxs, .int .i64 gsm, .bool go] 43) := ⟨_, rfl⟩
  have hbn : Below W2.heap.size W2 W3 := by rw [hW3]; exact (Below.refl _ _).alloc (Nat.le_refl _) _
  have RB3 := Lib.hid (RB2.out.below hbn RB2.out.lt)
  have RT3 := Lib.hid (RT2.out.below hbn RT2.out.lt)
  have RS3 : Hid (Row W3 (w.heap.size + 2) 43 [.int .i64 gc, .bool gh, .bool gmb, .int .i64 gmn, .string gms, .bool gxb, .int .i64 gxn, .string gxs, .int .i64 gsm, .bool go]) := Lib.hid (by rw [hW3, ← HZ2.out]; exact heap_alloc_new W2 _)
  have HB3 := Lib.hid (below_then HB2.out hbn)
  have HZ3 : Hid (W3.heap.size = w.heap.size + 3) := Lib.hid (by rw [hW3]; simp [HZ2.out])
  have a0 := RB2.out.cell 0
  have a1 := RB2.out.cell 1
  have b0 := RB3.out.cell 0
  have s0 := RS3.out.cell 0
  have s1 := RS3.out.cell 1
  clear hcell had hsv hbn hsn hs hn h0 h1 hcl _hb hcol
  by_cases h8 : op = 8
  · subst h8
    have HE := Lib.hid (show hpknown ⟨8, (c : Int), ⟨nb, nn, ns⟩, vals, ls, .slice vA vm vc, .slice lA lm lc⟩ l = ⟨decide (0 < gc), false, gh⟩ by unfold hpknown; dsimp only; rw [if_neg (by decide), if_pos rfl, hgets])
    clear hgets
    subst hW3
    subst hW2
    go_enter Tryd.func35, Tryd.ntmps35
    go_wp2_with (refine wpList_storeW rfl _ _ _ rfl (w.heap.size + 1) 0 44 [.bool false, .bool false, .bool false] [.bool (decide (0 < gc)), .bool false, .bool gh] [.bool (decide (0 < gc)), .bool false, .bool gh] rfl rfl rfl RT3.out infoA_size (Nat.le_refl _) (t3_one _ _ _) w w.heap.size HB3.out (by omega) ?_)
    intro wF hrF hbF _
    have HR : Hid (Row wF (w.heap.size + 1) 44 [.bool (decide (0 < gc)), .bool false, .bool gh]) := Lib.hid (by simpa using hrF)
    have HBF := Lib.hid hbF
    clear hrF hbF
    go_wp2
    refine bodyPost_ret (v := .agg #[.bool (decide (0 < gc)), .bool false, .bool gh]) (results_cell_row rfl _ _ (w.heap.size + 1) _ _ (0, 0) _ rfl HR.out Tryd.underlying44 rfl (by kernel_rfl)) rfl ?_
    exact ⟨by rw [HE.out]; rfl, HBF.out⟩
  have d8 : (op == 8) = false := by simpa using h8
  obtain ⟨W4, hW4⟩ : ∃ W4, W4 = W3.alloc (.cells #[.bool false, .bool gh, .bool false] 44) := ⟨_, rfl⟩
  have hbn : Below W3.heap.size W3 W4 := by rw [hW4]; exact (Below.refl _ _).alloc (Nat.le_refl _) _
  have RB4 := Lib.hid (RB3.out.below hbn RB3.out.lt)
  have RT4 := Lib.hid (RT3.out.below hbn RT3.out.lt)
  have RS4 := Lib.hid (RS3.out.below hbn RS3.out.lt)
  have RO4 : Hid (Row W4 (w.heap.size + 3) 44 [.bool false, .bool gh, .bool false]) := Lib.hid (by rw [hW4, ← HZ3.out]; exact heap_alloc_new W3 _)
  have HB4 := Lib.hid (below_then HB3.out hbn)
  have t0 := RS4.out.cell 0
  have t1 := RS4.out.cell 1
  have t2 := RS4.out.cell 2
  have t3 := RS4.out.cell 3
  have t4 := RS4.out.cell 4
  have t5 := RS4.out.cell 5
  have t6 := RS4.out.cell 6
  have t7 := RS4.out.cell 7
  have o0 := RO4.out.cell 0
  have o1 := RO4.out.cell 1
  have o2 := RO4.out.cell 2
  have e2 := RB4.out.cell 2
  have e3 := RB4.out.cell 3
  have e4 := RB4.out.cell 4
  clear hbn
  by_cases hc0 : gc = 0
  · subst hc0
    have HE := Lib.hid (show hpknown ⟨op, (c : Int), ⟨nb, nn, ns⟩, vals, ls, .slice vA vm vc, .slice lA lm lc⟩ l = ⟨false, gh, false⟩ by unfold hpknown; dsimp only; rw [if_neg h9, if_neg h8, hgets, if_pos rfl])
    clear hgets
    subst hW4
    subst hW3
    subst hW2
    go_enter Tryd.func35, Tryd.ntmps35
    go_wp2_with (refine wpList_storeW rfl _ _ _ rfl (w.heap.size + 1) 0 44 [.bool false, .bool false, .bool false] [.bool false, .bool gh, .bool false] [.bool false, .bool gh, .bool false] rfl rfl rfl RT4.out infoA_size (Nat.le_refl _) (t3_one _ _ _) w w.heap.size HB4.out (by omega) ?_)
    intro wF hrF hbF _
    have HR : Hid (Row wF (w.heap.size + 1) 44 [.bool false, .bool gh, .bool false]) := Lib.hid (by simpa using hrF)
    have HBF := Lib.hid hbF
    clear hrF hbF
    go_wp2
    refine bodyPost_ret (v := .agg #[.bool false, .bool gh, .bool false]) (results_cell_row rfl _ _ (w.heap.size + 1) _ _ (0, 0) _ rfl HR.out Tryd.underlying44 rfl (by kernel_rfl)) rfl ?_
    exact ⟨by rw [HE.out]; rfl, HBF.out⟩
  have dc : (gc == 0) = false := by simpa using hc0
  obtain ⟨q, hq⟩ : ∃ q, q = kcmp ⟨gmb, gmn, gms⟩ ⟨nb, nn, ns⟩ := ⟨_, rfl⟩
  obtain ⟨r, hr⟩ : ∃ r, r = kcmp ⟨gxb, gxn, gxs⟩ ⟨nb, nn, ns⟩ := ⟨_, rfl⟩
  have HC1 := Lib.hid (rcmp12_any ⟨gmb, gmn, gms⟩ ⟨nb, nn, ns⟩ W4)
  have HC2 := Lib.hid (fun X => rcmp12_any ⟨gxb, gxn, gxs⟩ ⟨nb, nn, ns⟩ X)
  rw [← hq] at HC1
  rw [← hr] at HC2
  have HQ := Lib.hid hq
  have HRR := Lib.hid hr
  have HGS := Lib.hid hgets
  unfold cv at HC1 HC2
  dsimp only at HC1 HC2
  clear hq hr hgets
  subst hW4
  subst hW3
  subst hW2
  go_enter Tryd.func35, Tryd.ntmps35
  go_wp2_with fail
  refine HC1.out.mono ?_
  rintro e w5 ⟨rfl, hb5⟩
  have RB5 := Lib.hid (RB4.out.below hb5 RB4.out.lt)
  have RT5 := Lib.hid (RT4.out.below hb5 RT4.out.lt)
  have RS5 := Lib.hid (RS4.out.below hb5 RS4.out.lt)
  have RO5 := Lib.hid (RO4.out.below hb5 RO4.out.lt)
  have HB5 := Lib.hid (below_then HB4.out hb5)
  clear a0 a1 b0 s0 s1 t0 t1 t2 t3 t4 t5 t6 t7 o0 o1 o2 e2 e3 e4 hb5 k0 k1 k2 k3 k4 k5 k6 k7 k8 k9
  have t5 := RS5.out.cell 5
  have t6 := RS5.out.cell 6
  have t7 := RS5.out.cell 7
  have e2 := RB5.out.cell 2
  have e3 := RB5.out.cell 3
  have e4 := RB5.out.cell 4
  go_wp2_with fail
  refine (HC2.out w5).mono ?_
  rintro e w6 ⟨rfl, hb6⟩
  have RB6 := Lib.hid (RB5.out.below hb6 RB5.out.lt)
  have RT6 := Lib.hid (RT5.out.below hb6 RT5.out.lt)
  have RS6 := Lib.hid (RS5.out.below hb6 RS5.out.lt)
  have RO6 := Lib.hid (RO5.out.below hb6 RO5.out.lt)
  have HB6 := Lib.hid (below_then HB5.out hb6)
  clear t5 t6 t7 e2 e3 e4 hb6
  have b0 := RB6.out.cell 0
  by_cases h4 : op = 4
  · subst h4
    have HE0 := Lib.hid (show hpknown ⟨4, (c : Int), ⟨nb, nn, ns⟩, vals, ls, .slice vA vm vc, .slice lA lm lc⟩ l = ⟨decide (q ≠ 0) || decide (r ≠ 0), gh, decide (q ≤ 0) && decide (0 ≤ r)⟩ by
      unfold hpknown
      dsimp only
      rw [if_neg (by decide), if_neg (by decide), HGS.out, if_neg hc0]
      dsimp only
      rw [← HQ.out, ← HRR.out, if_pos rfl])
    rcases (by omega : q < 0 ∨ q = 0 ∨ 0 < q) with hq | hq | hq
    · have g1 : decide (q ≤ 0) = true := decide_eq_true (by omega)
      have g2 : (q != 0) = true := by rw [bne_iff_ne]; omega
      have HE : Hid (hpknown ⟨4, (c : Int), ⟨nb, nn, ns⟩, vals, ls, .slice vA vm vc, .slice lA lm lc⟩ l = ⟨true, gh, decide (0 ≤ r)⟩) := Lib.hid (by rw [HE0.out, decide_eq_true (show q ≠ 0 by omega), decide_eq_true (show q ≤ 0 by omega), Bool.true_or, Bool.true_and])
      have R1 : Hid (Row (w6.setCell ⟨w.heap.size + 3, 2, none⟩ (.bool (decide (0 ≤ r)))) (w.heap.size + 3) 44 [.bool false, .bool gh, .bool (decide (0 ≤ r))]) := Lib.hid (RO6.out.set_ 2 _)
      have R2 : Hid (Row ((w6.setCell ⟨w.heap.size + 3, 2, none⟩ (.bool (decide (0 ≤ r)))).setCell ⟨w.heap.size + 3, 0, none⟩ (.bool (true))) (w.heap.size + 3) 44 [.bool (true), .bool gh, .bool (decide (0 ≤ r))]) := Lib.hid (R1.out.set_ 0 _)
      have T1 := Lib.hid (RT6.out.far (p := ⟨w.heap.size + 3, 2, none⟩) (by simp) (.bool (decide (0 ≤ r))))
      have T2 := Lib.hid (T1.out.far (p := ⟨w.heap.size + 3, 0, none⟩) (by simp) (.bool (true)))
      have HB7 := Lib.hid ((HB6.out.setCell (p := ⟨w.heap.size + 3, 2, none⟩) (by simp) (.bool (decide (0 ≤ r)))).setCell (p := ⟨w.heap.size + 3, 0, none⟩) (by simp) (.bool (true)))
      have x0 := RO6.out.cell 0
      have x1 := RO6.out.cell 1
      have x2 := RO6.out.cell 2
      have y0 := R1.out.cell 0
      have y1 := R1.out.cell 1
      have y2 := R1.out.cell 2
      have z0 := R2.out.cell 0
      have z1 := R2.out.cell 1
      have z2 := R2.out.cell 2
      have f2 := RO6.out.free 2
      have f0 := R1.out.free 0
      go_wp2_with (refine wpList_storeW rfl _ _ _ rfl (w.heap.size + 1) 0 44 [.bool false, .bool false, .bool false] [.bool (true), .bool gh, .bool (decide (0 ≤ r))] [.bool (true), .bool gh, .bool (decide (0 ≤ r))] rfl rfl rfl T2.out infoA_size (Nat.le_refl _) (t3_one _ _ _) w w.heap.size HB7.out (by omega) ?_)
      intro wF hrF hbF _
      have HR : Hid (Row wF (w.heap.size + 1) 44 [.bool (true), .bool gh, .bool (decide (0 ≤ r))]) := Lib.hid (by simpa using hrF)
      have HBF := Lib.hid hbF
      clear hrF hbF
      go_wp2
      refine bodyPost_ret (v := .agg #[.bool (true), .bool gh, .bool (decide (0 ≤ r))]) (results_cell_row rfl _ _ (w.heap.size + 1) _ _ (0, 0) _ rfl HR.out Tryd.underlying44 rfl (by kernel_rfl)) rfl ?_
      exact ⟨by rw [HE.out]; rfl, HBF.out⟩
    · have g1 : decide (q ≤ 0) = true := decide_eq_true (by omega)
      have g2 : (q != 0) = false := by rw [bne_eq_false_iff_eq]; exact hq
      have HE1 : Hid (decide (r ≠ 0) = (r != 0)) := Lib.hid (by rw [Bool.eq_iff_iff]; simp)
      have HQ0 := Lib.hid hq
      clear hq
      have HE : Hid (hpknown ⟨4, (c : Int), ⟨nb, nn, ns⟩, vals, ls, .slice vA vm vc, .slice lA lm lc⟩ l = ⟨r != 0, gh, decide (0 ≤ r)⟩) := Lib.hid (by rw [HE0.out, decide_eq_false (show ¬ q ≠ 0 by have := HQ0.out; omega), decide_eq_true (show q ≤ 0 by have := HQ0.out; omega), Bool.false_or, Bool.true_and, HE1.out])
      have R1 : Hid (Row (w6.setCell ⟨w.heap.size + 3, 2, none⟩ (.bool (decide (0 ≤ r)))) (w.heap.size + 3) 44 [.bool false, .bool gh, .bool (decide (0 ≤ r))]) := Lib.hid (RO6.out.set_ 2 _)
      have R2 : Hid (Row ((w6.setCell ⟨w.heap.size + 3, 2, none⟩ (.bool (decide (0 ≤ r)))).setCell ⟨w.heap.size + 3, 0, none⟩ (.bool (r != 0))) (w.heap.size + 3) 44 [.bool (r != 0), .bool gh, .bool (decide (0 ≤ r))]) := Lib.hid (R1.out.set_ 0 _)
      have T1 := Lib.hid (RT6.out.far (p := ⟨w.heap.size + 3, 2, none⟩) (by simp) (.bool (decide (0 ≤ r))))
      have T2 := Lib.hid (T1.out.far (p := ⟨w.heap.size + 3, 0, none⟩) (by simp) (.bool (r != 0)))
      have HB7 := Lib.hid ((HB6.out.setCell (p := ⟨w.heap.size + 3, 2, none⟩) (by simp) (.bool (decide (0 ≤ r)))).setCell (p := ⟨w.heap.size + 3, 0, none⟩) (by simp) (.bool (r != 0)))
      have x0 := RO6.out.cell 0
      have x1 := RO6.out.cell 1
      have x2 := RO6.out.cell 2
      have y0 := R1.out.cell 0
      have y1 := R1.out.cell 1
      have y2 := R1.out.cell 2
      have z0 := R2.out.cell 0
      have z1 := R2.out.cell 1
      have z2 := R2.out.cell 2
      have f2 := RO6.out.free 2
      have f0 := R1.out.free 0
      go_wp2_with (refine wpList_storeW rfl _ _ _ rfl (w.heap.size + 1) 0 44 [.bool false, .bool false, .bool false] [.bool (r != 0), .bool gh, .bool (decide (0 ≤ r))] [.bool (r != 0), .bool gh, .bool (decide (0 ≤ r))] rfl rfl rfl T2.out infoA_size (Nat.le_refl _) (t3_one _ _ _) w w.heap.size HB7.out (by omega) ?_)
      intro wF hrF hbF _
      have HR : Hid (Row wF (w.heap.size + 1) 44 [.bool (r != 0), .bool gh, .bool (decide (0 ≤ r))]) := Lib.hid (by simpa using hrF)
      have HBF := Lib.hid hbF
      clear hrF hbF
      go_wp2
      refine bodyPost_ret (v := .agg #[.bool (r != 0), .bool gh, .bool (decide (0 ≤ r))]) (results_cell_row rfl _ _ (w.heap.size + 1) _ _ (0, 0) _ rfl HR.out Tryd.underlying44 rfl (by kernel_rfl)) rfl ?_
      exact ⟨by rw [HE.out]; rfl, HBF.out⟩
    · have g1 : decide (q ≤ 0) = false := decide_eq_false (by omega)
      have g2 : (q != 0) = true := by rw [bne_iff_ne]; omega
      have HE : Hid (hpknown ⟨4, (c : Int), ⟨nb, nn, ns⟩, vals, ls, .slice vA vm vc, .slice lA lm lc⟩ l = ⟨true, gh, false⟩) := Lib.hid (by rw [HE0.out, decide_eq_true (show q ≠ 0 by omega), decide_eq_false (show ¬ q ≤ 0 by omega), Bool.true_or, Bool.false_and])
      have R1 : Hid (Row (w6.setCell ⟨w.heap.size + 3, 2, none⟩ (.bool (false))) (w.heap.size + 3) 44 [.bool false, .bool gh, .bool (false)]) := Lib.hid (RO6.out.set_ 2 _)
      have R2 : Hid (Row ((w6.setCell ⟨w.heap.size + 3, 2, none⟩ (.bool (false))).setCell ⟨w.heap.size + 3, 0, none⟩ (.bool (true))) (w.heap.size + 3) 44 [.bool (true), .bool gh, .bool (false)]) := Lib.hid (R1.out.set_ 0 _)
      have T1 := Lib.hid (RT6.out.far (p := ⟨w.heap.size + 3, 2, none⟩) (by simp) (.bool (false)))
      have T2 := Lib.hid (T1.out.far (p := ⟨w.heap.size + 3, 0, none⟩) (by simp) (.bool (true)))
      have HB7 := Lib.hid ((HB6.out.setCell (p := ⟨w.heap.size + 3, 2, none⟩) (by simp) (.bool (false))).setCell (p := ⟨w.heap.size + 3, 0, none⟩) (by simp) (.bool (true)))
      have x0 := RO6.out.cell 0
      have x1 := RO6.out.cell 1
      have x2 := RO6.out.cell 2
      have y0 := R1.out.cell 0
      have y1 := R1.out.cell 1
      have y2 := R1.out.cell 2
      have z0 := R2.out.cell 0
      have z1 := R2.out.cell 1
      have z2 := R2.out.cell 2
      have f2 := RO6.out.free 2
      have f0 := R1.out.free 0
      go_wp2_with (refine wpList_storeW rfl _ _ _ rfl (w.heap.size + 1) 0 44 [.bool false, .bool false, .bool false] [.bool (true), .bool gh, .bool (false)] [.bool (true), .bool gh, .bool (false)] rfl rfl rfl T2.out infoA_size (Nat.le_refl _) (t3_one _ _ _) w w.heap.size HB7.out (by omega) ?_)
      intro wF hrF hbF _
      have HR : Hid (Row wF (w.heap.size + 1) 44 [.bool (true), .bool gh, .bool (false)]) := Lib.hid (by simpa using hrF)
      have HBF := Lib.hid hbF
      clear hrF hbF
      go_wp2
      refine bodyPost_ret (v := .agg #[.bool (true), .bool gh, .bool (false)]) (results_cell_row rfl _ _ (w.heap.size + 1) _ _ (0, 0) _ rfl HR.out Tryd.underlying44 rfl (by kernel_rfl)) rfl ?_
      exact ⟨by rw [HE.out]; rfl, HBF.out⟩
  by_cases h5 : op = 5
  · subst h5
    have HE0 := Lib.hid (show hpknown ⟨5, (c : Int), ⟨nb, nn, ns⟩, vals, ls, .slice vA vm vc, .slice lA lm lc⟩ l = ⟨decide (0 ≤ r), gh, decide (q < 0)⟩ by
      unfold hpknown
      dsimp only
      rw [if_neg (by decide), if_neg (by decide), HGS.out, if_neg hc0]
      dsimp only
      rw [← HQ.out, ← HRR.out, if_neg (by decide), if_pos rfl])
    have HE : Hid (hpknown ⟨5, (c : Int), ⟨nb, nn, ns⟩, vals, ls, .slice vA vm vc, .slice lA lm lc⟩ l = ⟨decide (0 ≤ r), gh, decide (q < 0)⟩) := Lib.hid (by rw [HE0.out])
    have R1 : Hid (Row (w6.setCell ⟨w.heap.size + 3, 2, none⟩ (.bool (decide (q < 0)))) (w.heap.size + 3) 44 [.bool false, .bool gh, .bool (decide (q < 0))]) := Lib.hid (RO6.out.set_ 2 _)
    have R2 : Hid (Row ((w6.setCell ⟨w.heap.size + 3, 2, none⟩ (.bool (decide (q < 0)))).setCell ⟨w.heap.size + 3, 0, none⟩ (.bool (decide (0 ≤ r)))) (w.heap.size + 3) 44 [.bool (decide (0 ≤ r)), .bool gh, .bool (decide (q < 0))]) := Lib.hid (R1.out.set_ 0 _)
    have T1 := Lib.hid (RT6.out.far (p := ⟨w.heap.size + 3, 2, none⟩) (by simp) (.bool (decide (q < 0))))
    have T2 := Lib.hid (T1.out.far (p := ⟨w.heap.size + 3, 0, none⟩) (by simp) (.bool (decide (0 ≤ r))))
    have HB7 := Lib.hid ((HB6.out.setCell (p := ⟨w.heap.size + 3, 2, none⟩) (by simp) (.bool (decide (q < 0)))).setCell (p := ⟨w.heap.size + 3, 0, none⟩) (by simp) (.bool (decide (0 ≤ r))))
    have x0 := RO6.out.cell 0
    have x1 := RO6.out.cell 1
    have x2 := RO6.out.cell 2
    have y0 := R1.out.cell 0
    have y1 := R1.out.cell 1
    have y2 := R1.out.cell 2
    have z0 := R2.out.cell 0
    have z1 := R2.out.cell 1
    have z2 := R2.out.cell 2
    have f2 := RO6.out.free 2
    have f0 := R1.out.free 0
    go_wp2_with (refine wpList_storeW rfl _ _ _ rfl (w.heap.size + 1) 0 44 [.bool false, .bool false, .bool false] [.bool (decide (0 ≤ r)), .bool gh, .bool (decide (q < 0))] [.bool (decide (0 ≤ r)), .bool gh, .bool (decide (q < 0))] rfl rfl rfl T2.out infoA_size (Nat.le_refl _) (t3_one _ _ _) w w.heap.size HB7.out (by omega) ?_)
    intro wF hrF hbF _
    have HR : Hid (Row wF (w.heap.size + 1) 44 [.bool (decide (0 ≤ r)), .bool gh, .bool (decide (q < 0))]) := Lib.hid (by simpa using hrF)
    have HBF := Lib.hid hbF
    clear hrF hbF
    go_wp2
    refine bodyPost_ret (v := .agg #[.bool (decide (0 ≤ r)), .bool gh, .bool (decide (q < 0))]) (results_cell_row rfl _ _ (w.heap.size + 1) _ _ (0, 0) _ rfl HR.out Tryd.underlying44 rfl (by kernel_rfl)) rfl ?_
    exact ⟨by rw [HE.out]; rfl, HBF.out⟩
  by_cases h6 : op = 6
  · subst h6
    have HE0 := Lib.hid (show hpknown ⟨6, (c : Int), ⟨nb, nn, ns⟩, vals, ls, .slice vA vm vc, .slice lA lm lc⟩ l = ⟨decide (0 < r), gh, decide (q ≤ 0)⟩ by
      unfold hpknown
      dsimp only
      rw [if_neg (by decide), if_neg (by decide), HGS.out, if_neg hc0]
      dsimp only
      rw [← HQ.out, ← HRR.out, if_neg (by decide), if_neg (by decide), if_pos rfl])
    have HE : Hid (hpknown ⟨6, (c : Int), ⟨nb, nn, ns⟩, vals, ls, .slice vA vm vc, .slice lA lm lc⟩ l = ⟨decide (0 < r), gh, decide (q ≤ 0)⟩) := Lib.hid (by rw [HE0.out])
    have R1 : Hid (Row (w6.setCell ⟨w.heap.size + 3, 2, none⟩ (.bool (decide (q ≤ 0)))) (w.heap.size + 3) 44 [.bool false, .bool gh, .bool (decide (q ≤ 0))]) := Lib.hid (RO6.out.set_ 2 _)
    have R2 : Hid (Row ((w6.setCell ⟨w.heap.size + 3, 2, none⟩ (.bool (decide (q ≤ 0)))).setCell ⟨w.heap.size + 3, 0, none⟩ (.bool (decide (0 < r)))) (w.heap.size + 3) 44 [.bool (decide (0 < r)), .bool gh, .bool (decide (q ≤ 0))]) := Lib.hid (R1.out.set_ 0 _)
    have T1 := Lib.hid (RT6.out.far (p := ⟨w.heap.size + 3, 2, none⟩) (by simp) (.bool (decide (q ≤ 0))))
    have T2 := Lib.hid (T1.out.far (p := ⟨w.heap.size + 3, 0, none⟩) (by simp) (.bool (decide (0 < r))))
    have HB7 := Lib.hid ((HB6.out.setCell (p := ⟨w.heap.size + 3, 2, none⟩) (by simp) (.bool (decide (q ≤ 0)))).setCell (p := ⟨w.heap.size + 3, 0, none⟩) (by simp) (.bool (decide (0 < r))))
    have x0 := RO6.out.cell 0
    have x1 := RO6.out.cell 1
    have x2 := RO6.out.cell 2
    have y0 := R1.out.cell 0
    have y1 := R1.out.cell 1
    have y2 := R1.out.cell 2
    have z0 := R2.out.cell 0
    have z1 := R2.out.cell 1
    have z2 := R2.out.cell 2
    have f2 := RO6.out.free 2
    have f0 := R1.out.free 0
    go_wp2_with (refine wpList_storeW rfl _ _ _ rfl (w.heap.size + 1) 0 44 [.bool false, .bool false, .bool false] [.bool (decide (0 < r)), .bool gh, .bool (decide (q ≤ 0))] [.bool (decide (0 < r)), .bool gh, .bool (decide (q ≤ 0))] rfl rfl rfl T2.out infoA_size (Nat.le_refl _) (t3_one _ _ _) w w.heap.size HB7.out (by omega) ?_)
    intro wF hrF hbF _
    have HR : Hid (Row wF (w.heap.size + 1) 44 [.bool (decide (0 < r)), .bool gh, .bool (decide (q ≤ 0))]) := Lib.hid (by simpa using hrF)
    have HBF := Lib.hid hbF
    clear hrF hbF
    go_wp2
    refine bodyPost_ret (v := .agg #[.bool (decide (0 < r)), .bool gh, .bool (decide (q ≤ 0))]) (results_cell_row rfl _ _ (w.heap.size + 1) _ _ (0, 0) _ rfl HR.out Tryd.underlying44 rfl (by kernel_rfl)) rfl ?_
    exact ⟨by rw [HE.out]; rfl, HBF.out⟩
  obtain rfl : op = 7 := by omega
  have HE0 := Lib.hid (show hpknown ⟨7, (c : Int), ⟨nb, nn, ns⟩, vals, ls, .slice vA vm vc, .slice lA lm lc⟩ l = ⟨decide (kcmp ⟨gmb, gmn, gms⟩ ⟨gxb, gxn, gxs⟩ ≠ 0) || !(vals.any fun x => kcmp x ⟨gmb, gmn, gms⟩ == 0), gh, vals.any fun x => decide (0 ≤ kcmp x ⟨gmb, gmn, gms⟩) && decide (kcmp x ⟨gxb, gxn, gxs⟩ ≤ 0)⟩ by
    unfold hpknown
    dsimp only
    rw [if_neg (by decide), if_neg (by decide), HGS.out, if_neg hc0]
    dsimp only
    rw [if_neg (by decide), if_neg (by decide), if_neg (by decide)])
  have hvm6 : vm ≤ 1000000 := by rw [← HNA.out.vals.parts.1]; exact hvl rfl
  have HVM := Lib.hid HNA.out.vals.parts.1
  have HST := Lib.hid (show HKnRel vals ⟨gmb, gmn, gms⟩ ⟨gxb, gxn, gxs⟩ gh [.int .i64 gc, .bool gh, .bool gmb, .int .i64 gmn, .string gms, .bool gxb, .int .i64 gxn, .string gxs, .int .i64 gsm, .bool go] [.int .i64 7, .int .i64 (c : Int), .bool nb, .int .i64 nn, .string ns, .slice vA vm vc, .slice lA lm lc] w (.bool false) (.int .i64 0) w6 from ⟨0, Nat.zero_le _, rfl, rfl, RO6.out, RT6.out, RS6.out, RB6.out, HB6.out⟩)
  dsimp only at HVM
  go_wp2
  go_loopw [9, 10] (HKnRel vals ⟨gmb, gmn, gms⟩ ⟨gxb, gxn, gxs⟩ gh [.int .i64 gc, .bool gh, .bool gmb, .int .i64 gmn, .string gms, .bool gxb, .int .i64 gxn, .string gxs, .int .i64 gsm, .bool go] [.int .i64 7, .int .i64 (c : Int), .bool nb, .int .i64 nn, .string ns, .slice vA vm vc, .slice lA lm lc] w) (fun _ i _ => vm - (intOf i).toNat)
  case atStart => exact HST.out
  case round =>
    obtain ⟨j, hj, rfl, rfl, hro, hrt, hrs, hrb, hbw⟩ := hrel
    have hjm : j ≤ vm := by have := HVM.out; omega
    obtain ⟨yb, hyb⟩ : ∃ yb, yb = (vals.take j).any (fun x => decide (0 ≤ kcmp x ⟨gmb, gmn, gms⟩) && decide (kcmp x ⟨gxb, gxn, gxs⟩ ≤ 0)) := ⟨_, rfl⟩
    obtain ⟨ob, hob⟩ : ∃ ob, ob = (vals.take j).any (fun x => kcmp x ⟨gmb, gmn, gms⟩ == 0) := ⟨_, rfl⟩
    rw [← hyb] at hro
    rw [← hob]
    have HYB := Lib.hid hyb
    have HOB := Lib.hid hob
    have KO4 := Lib.hid hro
    have KT4 := Lib.hid hrt
    have KS4 := Lib.hid hrs
    have KB4 := Lib.hid hrb
    have KW4 := Lib.hid hbw
    have b5 := KB4.out.cell 5
    clear hj hyb hob hro hrt hrs hrb hbw b0
    by_cases hlt : j < vm
    · have hjl : j < vals.length := by have := HVM.out; omega
      have hlti : (j : Int) < (vm : Int) := by omega
      obtain ⟨va, rfl, _, hcell⟩ := (HNA.out.vals.below KW4.out).at (m := 3) (fun _ => rfl) (by omega) hjl
      obtain ⟨x, hx⟩ : ∃ x, x = vals[j] := ⟨_, rfl⟩
      have hcell' : ∀ i, i < 3 → wr.cell? (va.add (j * 3 + i)) = (kcells x)[i]? := by rw [hx]; exact hcell
      have HNX1 : Hid ((vals.take (j + 1)).any (fun x => kcmp x ⟨gmb, gmn, gms⟩ == 0) = (ob || (kcmp x ⟨gmb, gmn, gms⟩ == 0))) := Lib.hid (by rw [List.take_succ_eq_append_getElem hjl, List.any_append, ← HOB.out, hx]; simp)
      have HNX2 : Hid ((vals.take (j + 1)).any (fun x => decide (0 ≤ kcmp x ⟨gmb, gmn, gms⟩) && decide (kcmp x ⟨gxb, gxn, gxs⟩ ≤ 0)) = (yb || (decide (0 ≤ kcmp x ⟨gmb, gmn, gms⟩) && decide (kcmp x ⟨gxb, gxn, gxs⟩ ≤ 0)))) := Lib.hid (by rw [List.take_succ_eq_append_getElem hjl, List.any_append, ← HYB.out, hx]; simp)
      obtain ⟨k0, k1, k2⟩ := cells3 hcell'
      obtain ⟨a, haa⟩ : ∃ a, a = kcmp x ⟨gmb, gmn, gms⟩ := ⟨_, rfl⟩
      obtain ⟨b, hbb⟩ : ∃ b, b = kcmp x ⟨gxb, gxn, gxs⟩ := ⟨_, rfl⟩
      have HAE := Lib.hid haa.symm
      have HBE := Lib.hid hbb.symm
      have HCA := Lib.hid (fun X => rcmp12_any x ⟨gmb, gmn, gms⟩ X)
      have HCB := Lib.hid (fun X => rcmp12_any x ⟨gxb, gxn, gxs⟩ X)
      rw [← haa] at HCA
      rw [← hbb] at HCB
      obtain ⟨xb, xn, xs⟩ := x
      dsimp only at k0 k1 k2
      unfold cv at HCA HCB
      dsimp only at HCA HCB
      clear hcell hcell' hx haa hbb
      have hb : Below wr.heap.size wr (wr.alloc (.cells #[.bool xb, .int .i64 xn, .string xs] 41)) := (Below.refl _ _).alloc (Nat.le_refl _) _
      have HGX : Hid (w.heap.size + 3 < wr.heap.size) := Lib.hid KO4.out.lt
      have KX4 : Hid (Row (wr.alloc (.cells #[.bool xb, .int .i64 xn, .string xs] 41)) wr.heap.size 41 [.bool xb, .int .i64 xn, .string xs]) := Lib.hid (heap_alloc_new wr _)
      have KO5 := Lib.hid (KO4.out.below hb KO4.out.lt)
      have KT5 := Lib.hid (KT4.out.below hb KT4.out.lt)
      have KS5 := Lib.hid (KS4.out.below hb KS4.out.lt)
      have KB5 := Lib.hid (KB4.out.below hb KB4.out.lt)
      have KX5 := KX4
      have KW5 := Lib.hid (below_then KW4.out hb)
      have p2 := KO5.out.cell 2
      have q0 := KX5.out.cell 0
      have q1 := KX5.out.cell 1
      have q2 := KX5.out.cell 2
      have r2 := KS5.out.cell 2
      have r3 := KS5.out.cell 3
      have r4 := KS5.out.cell 4
      clear hb
      cases ob with
      | true =>
        cases yb with
        | true =>
          have KO9 : Hid (Row ((wr.alloc (.cells #[.bool xb, .int .i64 xn, .string xs] 41)).setCell ⟨w.heap.size + 3, 2, none⟩ (.bool (true))) (w.heap.size + 3) 44 [.bool false, .bool gh, .bool (true)]) := Lib.hid (KO5.out.set_ 2 _)
          have KT9 := Lib.hid (KT5.out.far (p := ⟨w.heap.size + 3, 2, none⟩) (by simp) (.bool (true)))
          have KS9 := Lib.hid (KS5.out.far (p := ⟨w.heap.size + 3, 2, none⟩) (by simp) (.bool (true)))
          have KB9 := Lib.hid (KB5.out.far (p := ⟨w.heap.size + 3, 2, none⟩) (by simp) (.bool (true)))
          have KX9 := Lib.hid (KX5.out.far (p := ⟨w.heap.size + 3, 2, none⟩) (by have := HGX.out; simp; omega) (.bool (true)))
          have KW9 := Lib.hid (KW5.out.setCell (p := ⟨w.heap.size + 3, 2, none⟩) (by simp) (.bool (true)))
          have fo := KO5.out.free 2
          have po := KO5.out.cell 2
          have HY9 : Hid ((vals.take (j + 1)).any (fun x => decide (0 ≤ kcmp x ⟨gmb, gmn, gms⟩) && decide (kcmp x ⟨gxb, gxn, gxs⟩ ≤ 0)) = (true)) := Lib.hid (by rw [HNX2.out, Bool.true_or])
          have HO9 : Hid ((vals.take (j + 1)).any (fun x => kcmp x ⟨gmb, gmn, gms⟩ == 0) = true) := Lib.hid (by rw [HNX1.out, Bool.true_or])
          go_wp2
          go_roundw
          case rel => exact ⟨j + 1, hjl, by go_num, by rw [HO9.out], by rw [HY9.out]; exact KO9.out, KT9.out, KS9.out, KB9.out, KW9.out⟩
          case measure => simp [intOf]; omega
        | false =>
          by_cases ha : 0 ≤ a
          · have g1 : decide (0 ≤ a) = true := decide_eq_true ha
            have HA1 := Lib.hid ha
            clear ha
            go_wp2_with fail
            refine (HCA.out _).mono ?_
            rintro e w7 ⟨rfl, hb⟩
            have KO7 := Lib.hid (KO5.out.below hb KO5.out.lt)
            have KT7 := Lib.hid (KT5.out.below hb KT5.out.lt)
            have KS7 := Lib.hid (KS5.out.below hb KS5.out.lt)
            have KB7 := Lib.hid (KB5.out.below hb KB5.out.lt)
            have KX7 := Lib.hid (KX5.out.below hb KX5.out.lt)
            have KW7 := Lib.hid (below_then KW5.out hb)
            clear hb
            have u0 := KX7.out.cell 0
            have u1 := KX7.out.cell 1
            have u2 := KX7.out.cell 2
            have v5 := KS7.out.cell 5
            have v6 := KS7.out.cell 6
            have v7 := KS7.out.cell 7
            go_wp2_with fail
            refine (HCB.out w7).mono ?_
            rintro e w8 ⟨rfl, hb⟩
            have KO8 := Lib.hid (KO7.out.below hb KO7.out.lt)
            have KT8 := Lib.hid (KT7.out.below hb KT7.out.lt)
            have KS8 := Lib.hid (KS7.out.below hb KS7.out.lt)
            have KB8 := Lib.hid (KB7.out.below hb KB7.out.lt)
            have KX8 := Lib.hid (KX7.out.below hb KX7.out.lt)
            have KW8 := Lib.hid (below_then KW7.out hb)
            clear hb u0 u1 u2 v5 v6 v7
            have KO9 : Hid (Row (w8.setCell ⟨w.heap.size + 3, 2, none⟩ (.bool (decide (b ≤ 0)))) (w.heap.size + 3) 44 [.bool false, .bool gh, .bool (decide (b ≤ 0))]) := Lib.hid (KO8.out.set_ 2 _)
            have KT9 := Lib.hid (KT8.out.far (p := ⟨w.heap.size + 3, 2, none⟩) (by simp) (.bool (decide (b ≤ 0))))
            have KS9 := Lib.hid (KS8.out.far (p := ⟨w.heap.size + 3, 2, none⟩) (by simp) (.bool (decide (b ≤ 0))))
            have KB9 := Lib.hid (KB8.out.far (p := ⟨w.heap.size + 3, 2, none⟩) (by simp) (.bool (decide (b ≤ 0))))
            have KX9 := Lib.hid (KX8.out.far (p := ⟨w.heap.size + 3, 2, none⟩) (by have := HGX.out; simp; omega) (.bool (decide (b ≤ 0))))
            have KW9 := Lib.hid (KW8.out.setCell (p := ⟨w.heap.size + 3, 2, none⟩) (by simp) (.bool (decide (b ≤ 0))))
            have fo := KO8.out.free 2
            have po := KO8.out.cell 2
            have HY9 : Hid ((vals.take (j + 1)).any (fun x => decide (0 ≤ kcmp x ⟨gmb, gmn, gms⟩) && decide (kcmp x ⟨gxb, gxn, gxs⟩ ≤ 0)) = (decide (b ≤ 0))) := Lib.hid (by rw [HNX2.out, Bool.false_or, HAE.out, HBE.out, decide_eq_true (show 0 ≤ a by have := HA1.out; omega), Bool.true_and])
            have HO9 : Hid ((vals.take (j + 1)).any (fun x => kcmp x ⟨gmb, gmn, gms⟩ == 0) = true) := Lib.hid (by rw [HNX1.out, Bool.true_or])
            go_wp2
            go_roundw
            case rel => exact ⟨j + 1, hjl, by go_num, by rw [HO9.out], by rw [HY9.out]; exact KO9.out, KT9.out, KS9.out, KB9.out, KW9.out⟩
            case measure => simp [intOf]; omega
          · have g1 : decide (0 ≤ a) = false := decide_eq_false ha
            have HA1 := Lib.hid ha
            clear ha
            go_wp2_with fail
            refine (HCA.out _).mono ?_
            rintro e w7 ⟨rfl, hb⟩
            have KO7 := Lib.hid (KO5.out.below hb KO5.out.lt)
            have KT7 := Lib.hid (KT5.out.below hb KT5.out.lt)
            have KS7 := Lib.hid (KS5.out.below hb KS5.out.lt)
            have KB7 := Lib.hid (KB5.out.below hb KB5.out.lt)
            have KX7 := Lib.hid (KX5.out.below hb KX5.out.lt)
            have KW7 := Lib.hid (below_then KW5.out hb)
            clear hb
            have KO9 : Hid (Row (w7.setCell ⟨w.heap.size + 3, 2, none⟩ (.bool (false))) (w.heap.size + 3) 44 [.bool false, .bool gh, .bool (false)]) := Lib.hid (KO7.out.set_ 2 _)
            have KT9 := Lib.hid (KT7.out.far (p := ⟨w.heap.size + 3, 2, none⟩) (by simp) (.bool (false)))
            have KS9 := Lib.hid (KS7.out.far (p := ⟨w.heap.size + 3, 2, none⟩) (by simp) (.bool (false)))
            have KB9 := Lib.hid (KB7.out.far (p := ⟨w.heap.size + 3, 2, none⟩) (by simp) (.bool (false)))
            have KX9 := Lib.hid (KX7.out.far (p := ⟨w.heap.size + 3, 2, none⟩) (by have := HGX.out; simp; omega) (.bool (false)))
            have KW9 := Lib.hid (KW7.out.setCell (p := ⟨w.heap.size + 3, 2, none⟩) (by simp) (.bool (false)))
            have fo := KO7.out.free 2
            have po := KO7.out.cell 2
            have HY9 : Hid ((vals.take (j + 1)).any (fun x => decide (0 ≤ kcmp x ⟨gmb, gmn, gms⟩) && decide (kcmp x ⟨gxb, gxn, gxs⟩ ≤ 0)) = (false)) := Lib.hid (by rw [HNX2.out, Bool.false_or, HAE.out, decide_eq_false (show ¬ 0 ≤ a by have := HA1.out; omega), Bool.false_and])
            have HO9 : Hid ((vals.take (j + 1)).any (fun x => kcmp x ⟨gmb, gmn, gms⟩ == 0) = true) := Lib.hid (by rw [HNX1.out, Bool.true_or])
            go_wp2
            go_roundw
            case rel => exact ⟨j + 1, hjl, by go_num, by rw [HO9.out], by rw [HY9.out]; exact KO9.out, KT9.out, KS9.out, KB9.out, KW9.out⟩
            case measure => simp [intOf]; omega
      | false =>
        cases yb with
        | true =>
          have KO9 : Hid (Row ((wr.alloc (.cells #[.bool xb, .int .i64 xn, .string xs] 41)).setCell ⟨w.heap.size + 3, 2, none⟩ (.bool (true))) (w.heap.size + 3) 44 [.bool false, .bool gh, .bool (true)]) := Lib.hid (KO5.out.set_ 2 _)
          have KT9 := Lib.hid (KT5.out.far (p := ⟨w.heap.size + 3, 2, none⟩) (by simp) (.bool (true)))
          have KS9 := Lib.hid (KS5.out.far (p := ⟨w.heap.size + 3, 2, none⟩) (by simp) (.bool (true)))
          have KB9 := Lib.hid (KB5.out.far (p := ⟨w.heap.size + 3, 2, none⟩) (by simp) (.bool (true)))
          have KX9 := Lib.hid (KX5.out.far (p := ⟨w.heap.size + 3, 2, none⟩) (by have := HGX.out; simp; omega) (.bool (true)))
          have KW9 := Lib.hid (KW5.out.setCell (p := ⟨w.heap.size + 3, 2, none⟩) (by simp) (.bool (true)))
          have fo := KO5.out.free 2
          have po := KO5.out.cell 2
          have HY9 : Hid ((vals.take (j + 1)).any (fun x => decide (0 ≤ kcmp x ⟨gmb, gmn, gms⟩) && decide (kcmp x ⟨gxb, gxn, gxs⟩ ≤ 0)) = (true)) := Lib.hid (by rw [HNX2.out, Bool.true_or])
          have HO9 : Hid ((vals.take (j + 1)).any (fun x => kcmp x ⟨gmb, gmn, gms⟩ == 0) = (a == 0)) := Lib.hid (by rw [HNX1.out, Bool.false_or, HAE.out])
          have m0 := KX9.out.cell 0
          have m1 := KX9.out.cell 1
          have m2 := KX9.out.cell 2
          have n2 := KS9.out.cell 2
          have n3 := KS9.out.cell 3
          have n4 := KS9.out.cell 4
          go_wp2_with fail
          refine (HCA.out ((wr.alloc (.cells #[.bool xb, .int .i64 xn, .string xs] 41)).setCell ⟨w.heap.size + 3, 2, none⟩ (.bool (true)))).mono ?_
          rintro e wz ⟨rfl, hb⟩
          have KO8 := Lib.hid (KO9.out.below hb KO9.out.lt)
          have KT8 := Lib.hid (KT9.out.below hb KT9.out.lt)
          have KS8 := Lib.hid (KS9.out.below hb KS9.out.lt)
          have KB8 := Lib.hid (KB9.out.below hb KB9.out.lt)
          have KW8 := Lib.hid (below_then KW9.out hb)
          clear hb m0 m1 m2 n2 n3 n4
          go_wp2
          go_roundw
          case rel => exact ⟨j + 1, hjl, by go_num, by rw [HO9.out], by rw [HY9.out]; exact KO8.out, KT8.out, KS8.out, KB8.out, KW8.out⟩
          case measure => simp [intOf]; omega
        | false =>
          by_cases ha : 0 ≤ a
          · have g1 : decide (0 ≤ a) = true := decide_eq_true ha
            have HA1 := Lib.hid ha
            clear ha
            go_wp2_with fail
            refine (HCA.out _).mono ?_
            rintro e w7 ⟨rfl, hb⟩
            have KO7 := Lib.hid (KO5.out.below hb KO5.out.lt)
            have KT7 := Lib.hid (KT5.out.below hb KT5.out.lt)
            have KS7 := Lib.hid (KS5.out.below hb KS5.out.lt)
            have KB7 := Lib.hid (KB5.out.below hb KB5.out.lt)
            have KX7 := Lib.hid (KX5.out.below hb KX5.out.lt)
            have KW7 := Lib.hid (below_then KW5.out hb)
            clear hb
            have u0 := KX7.out.cell 0
            have u1 := KX7.out.cell 1
            have u2 := KX7.out.cell 2
            have v5 := KS7.out.cell 5
            have v6 := KS7.out.cell 6
            have v7 := KS7.out.cell 7
            go_wp2_with fail
            refine (HCB.out w7).mono ?_
            rintro e w8 ⟨rfl, hb⟩
            have KO8 := Lib.hid (KO7.out.below hb KO7.out.lt)
            have KT8 := Lib.hid (KT7.out.below hb KT7.out.lt)
            have KS8 := Lib.hid (KS7.out.below hb KS7.out.lt)
            have KB8 := Lib.hid (KB7.out.below hb KB7.out.lt)
            have KX8 := Lib.hid (KX7.out.below hb KX7.out.lt)
            have KW8 := Lib.hid (below_then KW7.out hb)
            clear hb u0 u1 u2 v5 v6 v7
            have KO9 : Hid (Row (w8.setCell ⟨w.heap.size + 3, 2, none⟩ (.bool (decide (b ≤ 0)))) (w.heap.size + 3) 44 [.bool false, .bool gh, .bool (decide (b ≤ 0))]) := Lib.hid (KO8.out.set_ 2 _)
            have KT9 := Lib.hid (KT8.out.far (p := ⟨w.heap.size + 3, 2, none⟩) (by simp) (.bool (decide (b ≤ 0))))
            have KS9 := Lib.hid (KS8.out.far (p := ⟨w.heap.size + 3, 2, none⟩) (by simp) (.bool (decide (b ≤ 0))))
            have KB9 := Lib.hid (KB8.out.far (p := ⟨w.heap.size + 3, 2, none⟩) (by simp) (.bool (decide (b ≤ 0))))
            have KX9 := Lib.hid (KX8.out.far (p := ⟨w.heap.size + 3, 2, none⟩) (by have := HGX.out; simp; omega) (.bool (decide (b ≤ 0))))
            have KW9 := Lib.hid (KW8.out.setCell (p := ⟨w.heap.size + 3, 2, none⟩) (by simp) (.bool (decide (b ≤ 0))))
            have fo := KO8.out.free 2
            have po := KO8.out.cell 2
            have HY9 : Hid ((vals.take (j + 1)).any (fun x => decide (0 ≤ kcmp x ⟨gmb, gmn, gms⟩) && decide (kcmp x ⟨gxb, gxn, gxs⟩ ≤ 0)) = (decide (b ≤ 0))) := Lib.hid (by rw [HNX2.out, Bool.false_or, HAE.out, HBE.out, decide_eq_true (show 0 ≤ a by have := HA1.out; omega), Bool.true_and])
            have HO9 : Hid ((vals.take (j + 1)).any (fun x => kcmp x ⟨gmb, gmn, gms⟩ == 0) = (a == 0)) := Lib.hid (by rw [HNX1.out, Bool.false_or, HAE.out])
            have m0 := KX9.out.cell 0
            have m1 := KX9.out.cell 1
            have m2 := KX9.out.cell 2
            have n2 := KS9.out.cell 2
            have n3 := KS9.out.cell 3
            have n4 := KS9.out.cell 4
            go_wp2_with fail
            refine (HCA.out (w8.setCell ⟨w.heap.size + 3, 2, none⟩ (.bool (decide (b ≤ 0))))).mono ?_
            rintro e wz ⟨rfl, hb⟩
            have KO8 := Lib.hid (KO9.out.below hb KO9.out.lt)
            have KT8 := Lib.hid (KT9.out.below hb KT9.out.lt)
            have KS8 := Lib.hid (KS9.out.below hb KS9.out.lt)
            have KB8 := Lib.hid (KB9.out.below hb KB9.out.lt)
            have KW8 := Lib.hid (below_then KW9.out hb)
            clear hb m0 m1 m2 n2 n3 n4
            go_wp2
            go_roundw
            case rel => exact ⟨j + 1, hjl, by go_num, by rw [HO9.out], by rw [HY9.out]; exact KO8.out, KT8.out, KS8.out, KB8.out, KW8.out⟩
            case measure => simp [intOf]; omega
          · have g1 : decide (0 ≤ a) = false := decide_eq_false ha
            have HA1 := Lib.hid ha
            clear ha
            go_wp2_with fail
            refine (HCA.out _).mono ?_
            rintro e w7 ⟨rfl, hb⟩
            have KO7 := Lib.hid (KO5.out.below hb KO5.out.lt)
            have KT7 := Lib.hid (KT5.out.below hb KT5.out.lt)
            have KS7 := Lib.hid (KS5.out.below hb KS5.out.lt)
            have KB7 := Lib.hid (KB5.out.below hb KB5.out.lt)
            have KX7 := Lib.hid (KX5.out.below hb KX5.out.lt)
            have KW7 := Lib.hid (below_then KW5.out hb)
            clear hb
            have KO9 : Hid (Row (w7.setCell ⟨w.heap.size + 3, 2, none⟩ (.bool (false))) (w.heap.size + 3) 44 [.bool false, .bool gh, .bool (false)]) := Lib.hid (KO7.out.set_ 2 _)
            have KT9 := Lib.hid (KT7.out.far (p := ⟨w.heap.size + 3, 2, none⟩) (by simp) (.bool (false)))
            have KS9 := Lib.hid (KS7.out.far (p := ⟨w.heap.size + 3, 2, none⟩) (by simp) (.bool (false)))
            have KB9 := Lib.hid (KB7.out.far (p := ⟨w.heap.size + 3, 2, none⟩) (by simp) (.bool (false)))
            have KX9 := Lib.hid (KX7.out.far (p := ⟨w.heap.size + 3, 2, none⟩) (by have := HGX.out; simp; omega) (.bool (false)))
            have KW9 := Lib.hid (KW7.out.setCell (p := ⟨w.heap.size + 3, 2, none⟩) (by simp) (.bool (false)))
            have fo := KO7.out.free 2
            have po := KO7.out.cell 2
            have HY9 : Hid ((vals.take (j + 1)).any (fun x => decide (0 ≤ kcmp x ⟨gmb, gmn, gms⟩) && decide (kcmp x ⟨gxb, gxn, gxs⟩ ≤ 0)) = (false)) := Lib.hid (by rw [HNX2.out, Bool.false_or, HAE.out, decide_eq_false (show ¬ 0 ≤ a by have := HA1.out; omega), Bool.false_and])
            have HO9 : Hid ((vals.take (j + 1)).any (fun x => kcmp x ⟨gmb, gmn, gms⟩ == 0) = (a == 0)) := Lib.hid (by rw [HNX1.out, Bool.false_or, HAE.out])
            have m0 := KX9.out.cell 0
            have m1 := KX9.out.cell 1
            have m2 := KX9.out.cell 2
            have n2 := KS9.out.cell 2
            have n3 := KS9.out.cell 3
            have n4 := KS9.out.cell 4
            go_wp2_with fail
            refine (HCA.out (w7.setCell ⟨w.heap.size + 3, 2, none⟩ (.bool (false)))).mono ?_
            rintro e wz ⟨rfl, hb⟩
            have KO8 := Lib.hid (KO9.out.below hb KO9.out.lt)
            have KT8 := Lib.hid (KT9.out.below hb KT9.out.lt)
            have KS8 := Lib.hid (KS9.out.below hb KS9.out.lt)
            have KB8 := Lib.hid (KB9.out.below hb KB9.out.lt)
            have KW8 := Lib.hid (below_then KW9.out hb)
            clear hb m0 m1 m2 n2 n3 n4
            go_wp2
            go_roundw
            case rel => exact ⟨j + 1, hjl, by go_num, by rw [HO9.out], by rw [HY9.out]; exact KO8.out, KT8.out, KS8.out, KB8.out, KW8.out⟩
            case measure => simp [intOf]; omega
    · obtain rfl : j = vm := by omega
      have hlti : ¬ (j : Int) < (j : Int) := by omega
      have HTJ : Hid (vals.take j = vals) := Lib.hid (List.take_of_length_le (by have := HVM.out; omega))
      have HCE := Lib.hid (rcmp12_any ⟨gmb, gmn, gms⟩ ⟨gxb, gxn, gxs⟩ wr)
      obtain ⟨d, hd⟩ : ∃ d, d = kcmp ⟨gmb, gmn, gms⟩ ⟨gxb, gxn, gxs⟩ := ⟨_, rfl⟩
      rw [← hd] at HCE
      unfold cv at HCE
      dsimp only at HCE
      have HDE := Lib.hid hd.symm
      clear hd
      have s2 := KS4.out.cell 2
      have s3 := KS4.out.cell 3
      have s4 := KS4.out.cell 4
      have s5 := KS4.out.cell 5
      have s6 := KS4.out.cell 6
      have s7 := KS4.out.cell 7
      go_wp2_with fail
      refine HCE.out.mono ?_
      rintro e w7 ⟨rfl, hb⟩
      have KO7 := Lib.hid (KO4.out.below hb KO4.out.lt)
      have KT7 := Lib.hid (KT4.out.below hb KT4.out.lt)
      have KW7 := Lib.hid (below_then KW4.out hb)
      clear hb b5 s2 s3 s4 s5 s6 s7
      have HYE := Lib.hid (HYB.out)
      have HOE := Lib.hid (HOB.out)
      rw [HTJ.out] at HYE HOE
      by_cases hd0 : d = 0
      · have g2 : (d != 0) = false := by rw [bne_eq_false_iff_eq]; exact hd0
        have HD0 := Lib.hid hd0
        clear hd0
        have HE : Hid (hpknown ⟨7, (c : Int), ⟨nb, nn, ns⟩, vals, ls, .slice vA j vc, .slice lA lm lc⟩ l = ⟨!ob, gh, yb⟩) := Lib.hid (by rw [HE0.out, HDE.out, ← HYE.out, ← HOE.out, decide_eq_false (show ¬ d ≠ 0 by have := HD0.out; omega), Bool.false_or])
        have R2 : Hid (Row (w7.setCell ⟨w.heap.size + 3, 0, none⟩ (.bool (!ob))) (w.heap.size + 3) 44 [.bool (!ob), .bool gh, .bool yb]) := Lib.hid (KO7.out.set_ 0 _)
        have T2 := Lib.hid (KT7.out.far (p := ⟨w.heap.size + 3, 0, none⟩) (by simp) (.bool (!ob)))
        have HB7 := Lib.hid (KW7.out.setCell (p := ⟨w.heap.size + 3, 0, none⟩) (by simp) (.bool (!ob)))
        have x0 := KO7.out.cell 0
        have x1 := KO7.out.cell 1
        have x2 := KO7.out.cell 2
        have z0 := R2.out.cell 0
        have z1 := R2.out.cell 1
        have z2 := R2.out.cell 2
        have f0 := KO7.out.free 0
        go_wp2_with (refine wpList_storeW rfl _ _ _ rfl (w.heap.size + 1) 0 44 [.bool false, .bool false, .bool false] [.bool (!ob), .bool gh, .bool yb] [.bool (!ob), .bool gh, .bool yb] rfl rfl rfl T2.out infoA_size (Nat.le_refl _) (t3_one _ _ _) w w.heap.size HB7.out (by omega) ?_)
        intro wF hrF hbF _
        have HR : Hid (Row wF (w.heap.size + 1) 44 [.bool (!ob), .bool gh, .bool yb]) := Lib.hid (by simpa using hrF)
        have HBF := Lib.hid hbF
        clear hrF hbF
        go_wp2
        refine bodyPost_ret (v := .agg #[.bool (!ob), .bool gh, .bool yb]) (results_cell_row rfl _ _ (w.heap.size + 1) _ _ (0, 0) _ rfl HR.out Tryd.underlying44 rfl (by kernel_rfl)) rfl ?_
        exact ⟨by rw [HE.out]; rfl, HBF.out⟩
      · have g2 : (d != 0) = true := by rw [bne_iff_ne]; exact hd0
        have HD0 := Lib.hid hd0
        clear hd0
        have HE : Hid (hpknown ⟨7, (c : Int), ⟨nb, nn, ns⟩, vals, ls, .slice vA j vc, .slice lA lm lc⟩ l = ⟨true, gh, yb⟩) := Lib.hid (by rw [HE0.out, HDE.out, ← HYE.out, ← HOE.out, decide_eq_true HD0.out, Bool.true_or])
        have R2 : Hid (Row (w7.setCell ⟨w.heap.size + 3, 0, none⟩ (.bool (true))) (w.heap.size + 3) 44 [.bool (true), .bool gh, .bool yb]) := Lib.hid (KO7.out.set_ 0 _)
        have T2 := Lib.hid (KT7.out.far (p := ⟨w.heap.size + 3, 0, none⟩) (by simp) (.bool (true)))
        have HB7 := Lib.hid (KW7.out.setCell (p := ⟨w.heap.size + 3, 0, none⟩) (by simp) (.bool (true)))
        have x0 := KO7.out.cell 0
        have x1 := KO7.out.cell 1
        have x2 := KO7.out.cell 2
        have z0 := R2.out.cell 0
        have z1 := R2.out.cell 1
        have z2 := R2.out.cell 2
        have f0 := KO7.out.free 0
        go_wp2_with (refine wpList_storeW rfl _ _ _ rfl (w.heap.size + 1) 0 44 [.bool false, .bool false, .bool false] [.bool (true), .bool gh, .bool yb] [.bool (true), .bool gh, .bool yb] rfl rfl rfl T2.out infoA_size (Nat.le_refl _) (t3_one _ _ _) w w.heap.size HB7.out (by omega) ?_)
        intro wF hrF hbF _
        have HR : Hid (Row wF (w.heap.size + 1) 44 [.bool (true), .bool gh, .bool yb]) := Lib.hid (by simpa using hrF)
        have HBF := Lib.hid hbF
        clear hrF hbF
        go_wp2
        refine bodyPost_ret (v := .agg #[.bool (true), .bool gh, .bool yb]) (results_cell_row rfl _ _ (w.heap.size + 1) _ _ (0, 0) _ rfl HR.out Tryd.underlying44 rfl (by kernel_rfl)) rfl ?_
        exact ⟨by rw [HE.out]; rfl, HBF.out⟩
end Go.Proofs.YtniniophoocalaaDoor

/- What layer 18's reference's Outcomes stands on: And and Or of two, pair by pair; three truths as they lie. -/



namespace Go.Proofs.YtniniophoocalaaDoor

open Go.RowKit

def hpairs : List (Int × Int) := [(0, 0), (0, 1), (0, 2), (1, 0), (1, 1), (1, 2), (2, 0), (2, 1), (2, 2)]
def T3.put (t : T3) (c : Int) (b : Bool) : T3 := if c = 0 then ⟨b, t.un, t.yes⟩ else if c = 1 then ⟨t.no, b, t.yes⟩ else ⟨t.no, t.un, b⟩
def hpstep (f : Int → Int → Int) (x y t : T3) (p : Int × Int) : T3 := t.put (f p.1 p.2) (t.at_ (f p.1 p.2) || (x.at_ p.1 && y.at_ p.2))
/-- What the first k pairs give. -/
def hppart (f : Int → Int → Int) (x y : T3) (k : Nat) : T3 := (hpairs.take k).foldl (hpstep f x y) hpno3
theorem hppart_next (f : Int → Int → Int) (x y : T3) {a b : Nat} (ha : a < 3) (hb : b < 3) : hppart f x y (3 * a + b + 1) = hpstep f x y (hppart f x y (3 * a + b)) ((a : Int), (b : Int)) := by
  have hk : 3 * a + b < hpairs.length := by unfold hpairs; simp; omega
  have hg : hpairs[3 * a + b] = ((a : Int), (b : Int)) := by
    rcases (by omega : a = 0 ∨ a = 1 ∨ a = 2) with rfl | rfl | rfl <;> rcases (by omega : b = 0 ∨ b = 1 ∨ b = 2) with rfl | rfl | rfl <;> rfl
  unfold hppart
  rw [List.take_succ_eq_append_getElem hk, List.foldl_append, hg]
  rfl
theorem hppart_and (x y : T3) : hppart min x y 9 = hpboth x y := by
  obtain ⟨x0, x1, x2⟩ := x
  obtain ⟨y0, y1, y2⟩ := y
  cases x0 <;> cases x1 <;> cases x2 <;> cases y0 <;> cases y1 <;> cases y2 <;> rfl
theorem hppart_or (x y : T3) : hppart max x y 9 = hpone x y := by
  obtain ⟨x0, x1, x2⟩ := x
  obtain ⟨y0, y1, y2⟩ := y
  cases x0 <;> cases x1 <;> cases x2 <;> cases y0 <;> cases y1 <;> cases y2 <;> rfl
/-- Three truths as they lie. -/
def t3c (t : T3) : List Value := [.bool t.no, .bool t.un, .bool t.yes]
theorem t3c_at (t : T3) {a : Nat} (h : a < 3) : (t3c t)[a]? = some (.bool (t.at_ (a : Int))) := by
  rcases (by omega : a = 0 ∨ a = 1 ∨ a = 2) with rfl | rfl | rfl <;> rfl
theorem t3c_set (t : T3) {a : Nat} (h : a < 3) (b : Bool) : (t3c t).set a (.bool b) = t3c (t.put (a : Int) b) := by
  rcases (by omega : a = 0 ∨ a = 1 ∨ a = 2) with rfl | rfl | rfl <;> rfl
theorem elemT3 : ElemW Tryd.prog 65 44 3 3 (t3v hpno3) := by
  refine ⟨Tryd.underlying65, rfl, by omega, ?_⟩
  have h : (Tryd.prog.info? 44).map (fun i => (i.zero, i.size, i.bytes)) = some (some (t3v hpno3), 3, 3) := by kernel_rfl
  cases hi : Tryd.prog.info? 44 with
  | none => rw [hi] at h; cases h
  | some i =>
    rw [hi] at h
    injection h with h
    injection h with h1 h
    injection h with h2 h3
    exact ⟨i, rfl, h1, h2, h3⟩
end Go.Proofs.YtniniophoocalaaDoor

/- What the inner loops of layer 18's reference's Outcomes keep. Written by gen_houts.py. -/



namespace Go.Proofs.YtniniophoocalaaDoor

open Go.RowKit

/-- What each round keeps: what was there ahead (world w0, of which the row of answers is a part), the node's block g, what is so far in g + 1, the new one in h. -/
structure HKeep (w0 : World) (pcs : List Value) (X : T3) (w : World) : Prop where
  old : Below w0.heap.size w0 w
  node : Row w w0.heap.size 51 pcs
  cur : Row w (w0.heap.size + 1) 44 (t3c X)
structure HKeep2 (w0 : World) (pcs : List Value) (X T : T3) (h : Nat) (w : World) : Prop where
  keep : HKeep w0 pcs X w
  far : w0.heap.size + 1 < h
  new : Row w h 44 (t3c T)
theorem HKeep.alloc {w0 w : World} {pcs : List Value} {X : T3} (k : HKeep w0 pcs X w) (o : Obj) : HKeep w0 pcs X (w.alloc o) := ⟨k.old.alloc (k.old.size) _, k.node.alloc _, k.cur.alloc _⟩
theorem HKeep2.put {w0 w : World} {pcs : List Value} {X T : T3} {h : Nat} (k : HKeep2 w0 pcs X T h w) {c : Nat} (hc : c < 3) (b : Bool) : HKeep2 w0 pcs X (T.put (c : Int) b) h (w.setCell ⟨h, c, none⟩ (.bool b)) := by
  have hf := k.far
  refine ⟨⟨k.keep.old.setCell (p := ⟨h, c, none⟩) (by show w0.heap.size ≤ h; omega) _, k.keep.node.far (p := ⟨h, c, none⟩) (by show w0.heap.size ≠ h; omega) _, k.keep.cur.far (p := ⟨h, c, none⟩) (by show w0.heap.size + 1 ≠ h; omega) _⟩, hf, ?_⟩
  have h1 := k.new.set_ c (.bool b)
  rwa [t3c_set _ hc] at h1
/-- The inner loop, over b. -/
def HBRel (w0 : World) (pcs : List Value) (f : Int → Int → Int) (X Y : T3) (h a : Nat) (i : Value) (w : World) : Prop := ∃ b : Nat, b ≤ 3 ∧ i = .int .i64 (b : Int) ∧ HKeep2 w0 pcs X (hppart f X Y (3 * a + b)) h w
/-- The loop over a. -/
def HARel (w0 : World) (pcs : List Value) (f : Int → Int → Int) (X Y : T3) (h : Nat) (i : Value) (w : World) : Prop := ∃ a : Nat, a ≤ 3 ∧ i = .int .i64 (a : Int) ∧ HKeep2 w0 pcs X (hppart f X Y (3 * a)) h w
end Go.Proofs.YtniniophoocalaaDoor
