
/- Contracts of layer 5's reference: same, Put, Take. -/

import Derived.Test.YtffglnccpbbclaaCom

import Derived.Test.YtffglnccpbbclaaYPlain

namespace Go.Proofs.Ytffglnccpbbclaa

open Go.RowKit

theorem takeWhile_at {α : Type} (p : α → Bool) : ∀ (l : List α) (j : Nat) (h : j < l.length), j ≤ (l.takeWhile p).length → (j < (l.takeWhile p).length ↔ p l[j] = true)
  | x :: l, 0, _, _ => by
    rw [List.takeWhile_cons]
    cases hx : p x <;> simp [hx]
  | x :: l, j + 1, h, hj => by
    rw [List.takeWhile_cons] at hj ⊢
    cases hx : p x with
    | false => rw [hx] at hj; simp at hj
    | true =>
      rw [hx] at hj
      simp only [if_true, List.length_cons] at hj ⊢
      have := takeWhile_at p l j (by simpa using h) (by omega)
      rw [List.getElem_cons_succ, ← this]
      omega
/-- Of bytes from a place on: what is known when k of them are as the first, and how it goes on. -/
theorem ysame_step {l : List UInt8} {a k : Nat} (ha : a < l.length) (hk : 1 ≤ k) (h : k ≤ ysame (l.drop a)) :
    (a + k = l.length → ysame (l.drop a) = k) ∧ (k = 130 → ysame (l.drop a) = k) ∧ (∀ h' : a + k < l.length, k < 130 → (l[a + k] = l[a] → k + 1 ≤ ysame (l.drop a)) ∧ (l[a + k] ≠ l[a] → ysame (l.drop a) = k)) := by
  rw [List.drop_eq_getElem_cons ha, ysame_cons] at h ⊢
  have hT := takeWhile_len (· == l[a]) (l.drop (a + 1))
  rw [List.length_drop] at hT
  refine ⟨fun h1 => by omega, fun h1 => by omega, fun h' h130 => ?_⟩
  have h2 := takeWhile_at (· == l[a]) (l.drop (a + 1)) (k - 1) (by rw [List.length_drop]; omega) (by omega)
  have h3 : (l.drop (a + 1))[k - 1]'(by rw [List.length_drop]; omega) = l[a + k] := by
    rw [List.getElem_drop]
    congr 1
    omega
  rw [h3, beq_iff_eq] at h2
  exact ⟨fun h4 => by have := h2.2 h4; omega, fun h4 => by have h5 := fun h5 => h4 (h2.1 h5); have h6 := Nat.le_of_not_lt h5; omega⟩

def SameRel5 (l : List UInt8) (a : Nat) (w : World) (v : Value) (wr : World) : Prop := ∃ k q : Nat, v = .int .i64 (k : Int) ∧ 1 ≤ k ∧ k ≤ ysame (l.drop a) ∧ wr = w.drewN q
def SamePost (l : List UInt8) (a : Nat) (w : World) (e : Ending) (w' : World) : Prop := e = .returned (.int .i64 (ysame (l.drop a) : Int)) ∧ ∃ q, w' = w.drewN q
set_option maxHeartbeats 1000000 in
set_option maxRecDepth 100000 in
theorem rsame_any (A : Option Addr) (n c : Nat) (l : List UInt8) (a : Nat) (w : World) (hn : l.length = n) (hb : n ≤ 1000000) (ha : a < n) (hl : Lies w A (l.map bv)) :
    Calls Try.prog 45 #[.slice A n c, .int .i64 (a : Int)] w (SamePost l a w) := by
  have hal : a < l.length := by omega
  obtain ⟨ad, rfl, _, hcell⟩ := hl.cell (k := a) (by rw [List.length_map]; exact hal)
  have HL := Lib.hid hl
  obtain ⟨x, hx⟩ : ∃ x : Nat, x = l[a].toNat := ⟨_, rfl⟩
  have hcx : ∀ q, (w.drewN q).cell? (ad.add a) = some (.int .u8 (x : Int)) := fun q => by
    show w.cell? _ = _
    rw [hcell, List.getElem_map, hx]; rfl
  have HC := Lib.hid hcx
  have HX := Lib.hid hx
  have HN := Lib.hid hn
  have hpos : 1 ≤ ysame (l.drop a) := ysame_pos (by intro h; have := congrArg List.length h; rw [List.length_drop, List.length_nil] at this; omega)
  have hsl := ysame_le (l.drop a)
  rw [List.length_drop, hn] at hsl
  have hs130 := ysame_130 (l.drop a)
  clear hn hl hcell hx hcx
  go_enter Try.func45, Try.ntmps45
  go_wp2
  go_loopw [5] (SameRel5 l a w) (fun v _ => 131 - (intOf v).toNat)
  case atStart => exact ⟨1, 0, rfl, Nat.le_refl _, hpos, rfl⟩
  case round =>
    obtain ⟨k, q0, rfl, hk1, hk, hw⟩ := hrel
    have HW := Lib.hid hw
    clear hw
    have hst := ysame_step (l := l) (a := a) (k := k) hal hk1 hk
    have HST := Lib.hid hst
    have hcx : wr.cell? (ad.add a) = some (.int .u8 (x : Int)) := by rw [HW.out]; exact HC.out q0
    obtain ⟨q, hq⟩ : ∃ q, q = a + k := ⟨_, rfl⟩
    have hwq : IntKind.i64.wrap ((a : Int) + (k : Int)) = (q : Int) := by rw [IntKind.wrap_i64]; omega
    have HQ := Lib.hid hq
    clear hst hq hpos
    by_cases h1 : q < n
    · have d1 : decide (q < n) = true := decide_eq_true h1
      have h1i : (q : Int) < (n : Int) := by omega
      have h2i : (a : Int) < (n : Int) := by omega
      by_cases h2 : k < 130
      · have d2 : decide ((k : Int) < 130) = true := decide_eq_true (by omega)
        have hql : q < l.length := by have := HN.out; omega
        obtain ⟨_, had, _, hcell⟩ := HL.out.cell (k := q) (by rw [List.length_map]; exact hql)
        injection had with had
        subst had
        obtain ⟨y, hy⟩ : ∃ y : Nat, y = l[q].toNat := ⟨_, rfl⟩
        have hcy : wr.cell? (ad.add q) = some (.int .u8 (y : Int)) := by
          rw [HW.out]
          show w.cell? _ = _
          rw [hcell, List.getElem_map, hy]; rfl
        have HY := Lib.hid hy
        clear hy hcell
        by_cases hxy : y = x
        · subst hxy
          have d3 : ((y : Int) == (y : Int)) = true := by simp
          have hnext : k + 1 ≤ ysame (l.drop a) := by
            have h3 := (HST.out.2.2 (by have := HQ.out; have := HN.out; omega) h2).1
            refine h3 (UInt8.toNat_inj.1 ?_)
            have h4 := HQ.out
            subst h4
            rw [← HX.out, ← HY.out]
          go_wp2
          go_quiet (fail)
          go_wp2
          go_roundw
          case rel => exact ⟨k + 1, _, by go_num, by omega, hnext, by rw [HW.out]; exact World.drewN_drewN _ _ _⟩
          case measure => simp [intOf]; omega
        · have d3 : ((y : Int) == (x : Int)) = false := by simpa using (fun h => hxy (by omega))
          have hend : ysame (l.drop a) = k := by
            have h3 := (HST.out.2.2 (by have := HQ.out; have := HN.out; omega) h2).2
            refine h3 fun h => hxy ?_
            have h4 := HQ.out
            subst h4
            rw [HX.out, HY.out, h]
          have HE := Lib.hid hend
          clear hend
          go_wp2
          go_quiet (fail)
          go_wp2
          go_ret
          exact ⟨ret_int (by rw [HE.out]), _, by rw [HW.out]; exact World.drewN_drewN _ _ _⟩
      · have d2 : decide ((k : Int) < 130) = false := decide_eq_false (by omega)
        have HE := Lib.hid (HST.out.2.1 (by omega))
        go_wp2
        go_quiet (fail)
        go_wp2
        go_ret
        exact ⟨ret_int (by rw [HE.out]), _, by rw [HW.out]; exact World.drewN_drewN _ _ _⟩
    · have d1 : decide (q < n) = false := decide_eq_false h1
      have HE := Lib.hid (HST.out.1 (by have := HQ.out; have := HN.out; omega))
      go_wp2
      go_quiet (fail)
      go_wp2
      go_ret
      exact ⟨ret_int (by rw [HE.out]), _, by rw [HW.out]; exact World.drewN_drewN _ _ _⟩

/-- What Put answers. -/
def yputE (l : List UInt8) : List UInt8 × Int := if l.length ≤ 4096 then (yput l, 0) else ([], 3)
theorem drop_at {l : List UInt8} {a : Nat} (h : a < l.length) : l.drop a = l[a] :: l.drop (a + 1) := List.drop_eq_getElem_cons h
theorem yput_run_at {l : List UInt8} {a : Nat} (h : a < l.length) (h3 : 3 ≤ ysame (l.drop a)) : yput (l.drop a) = [UInt8.ofNat (ysame (l.drop a) - 3), l[a]] ++ yput (l.drop (a + ysame (l.drop a))) := by
  rw [← List.drop_drop]
  conv => lhs; rw [drop_at h, yput_run _ _ (by rw [← drop_at h]; exact h3), ← drop_at h]
  rfl
theorem yput_list_at {l : List UInt8} {a : Nat} (h : a < l.length) (h3 : ysame (l.drop a) < 3) : yput (l.drop a) = (UInt8.ofNat (256 - ylist (l.drop a) 0) :: (l.drop a).take (ylist (l.drop a) 0)) ++ yput (l.drop (a + ylist (l.drop a) 0)) := by
  rw [← List.drop_drop]
  conv => lhs; rw [drop_at h, yput_list _ _ (by rw [← drop_at h]; exact h3), ← drop_at h]
  rfl
theorem ylist_at {l : List UInt8} {b k : Nat} (h : b < l.length) : ylist (l.drop b) k = if k < 128 ∧ ysame (l.drop b) < 3 then ylist (l.drop (b + 1)) (k + 1) else k := by
  rw [drop_at h, ylist]
def RPutRel5 (l : List UInt8) (w : World) (v a : Value) (wr : World) : Prop :=
  ∃ (k : Nat) (m : List UInt8), k ≤ l.length ∧ a = .int .i64 (k : Int) ∧ m ++ yput (l.drop k) = yput l ∧ wr.ownsRow w.heap.size 5 1 v m.length (m.map bv) ∧ Below w.heap.size w wr ∧ w.heap.size ≤ wr.heap.size
def RPutRel6 (l : List UInt8) (a : Nat) (w : World) (e : Value) (wr : World) : Prop :=
  ∃ E k q : Nat, e = .int .i64 (E : Int) ∧ E = a + k ∧ E ≤ l.length ∧ k ≤ 128 ∧ ylist (l.drop E) k = ylist (l.drop a) 0 ∧ wr = w.drewN q
set_option maxHeartbeats 4000000 in
set_option maxRecDepth 100000 in
theorem rput5_any (l : List UInt8) (v : Value) (w : World) (hv : IsB l v w) (hb : l.length ≤ 1000000) :
    Calls Try.prog 36 #[v] w (RetE w (yputE l)) := by
  obtain ⟨A, c, rfl, hA, hnc, hcm, hl⟩ := hv
  obtain ⟨n, hn⟩ : ∃ n, n = l.length := ⟨_, rfl⟩
  rw [← hn] at hA hnc hb ⊢
  by_cases hbig : n ≤ 4096
  · have hE : Hid (yputE l = (yput l, 0)) := Lib.hid (by unfold yputE; rw [if_pos (by omega)])
    have hbi : ¬ (4096 : Int) < (n : Int) := by omega
    have hci : (c : Int) ≤ 9223372036854775807 := by unfold maxLen at hcm; omega
    have HS := Lib.hid fun (a : Nat) (ha : a < n) (W : World) (h : Lies W A (l.map bv)) => rsame_any A n c l a W hn.symm (by omega) ha h
    have HP := Lib.hid fun (i k : Nat) (W : World) (hi : i ≤ k) (hk : k ≤ n) (h : Lies W A (l.map bv)) => piece_named (P := Try.prog) elemB hi hk hnc hcm hn.symm h hA
    have HLi := Lib.hid hl
    have HN := Lib.hid hn
    have HA := Lib.hid hA
    have hown0 : (w.alloc (.cells #[] 5)).ownsRow w.heap.size 5 1 (.slice (some ⟨w.heap.size, 0, none⟩) 0 0) 0 [] := World.ownsRow_made w #[] 0 (Nat.le_refl _) (by unfold maxLen; omega) (by simp)
    have hst : RPutRel5 l w (.slice (some ⟨w.heap.size, 0, none⟩) 0 0) (.int .i64 0) (w.alloc (.cells #[] 5)) := ⟨0, [], by omega, rfl, by simp, by simpa using hown0, (Below.refl _ _).alloc (Nat.le_refl _) _, by simp⟩
    clear hn hl hcm hA hown0
    go_enter Try.func36, Try.ntmps36
    go_wp2
    go_loopw [4, 5] (RPutRel5 l w) (fun _ a _ => n - (intOf a).toNat)
    case atStart => exact hst
    case round =>
      obtain ⟨a, m, han, rfl, hm, hown, hbw, hzw⟩ := hrel
      have HM := Lib.hid hm
      clear hst hm
      have ha' : a ≤ n := by have := HN.out; omega
      by_cases hlt : a < n
      · have hal : a < l.length := by have := HN.out; omega
        have hmlen : m.length ≤ 8192 := by
          have h1 := congrArg List.length HM.out
          rw [List.length_append] at h1
          have h2 := yput_len _ l (Nat.le_refl _)
          have := HN.out
          omega
        obtain ⟨S, hS⟩ : ∃ S, S = ysame (l.drop a) := ⟨_, rfl⟩
        have hS130 : S ≤ 130 := by rw [hS]; exact ysame_130 _
        have hSn : a + S ≤ n := by have := ysame_le (l.drop a); rw [List.length_drop] at this; have := HN.out; omega
        have hlw := HLi.out.below hbw
        have hSA := Lib.hid (HS.out a hlt wr hlw)
        have HSS := Lib.hid hS
        clear hS
        go_wp2_with fail
        refine hSA.out.mono ?_
        rintro e w2 ⟨rfl, q0, hw2⟩
        rw [← HSS.out]
        have hown2 := own_drewN hown q0
        rw [← hw2] at hown2
        have hb2 : Below w.heap.size w w2 := by rw [hw2]; exact below_drewN hbw _
        have hz2 : w.heap.size ≤ w2.heap.size := hb2.size
        clear hw2 hown hbw hzw hSA hlw
        by_cases h3 : 3 ≤ S
        · obtain ⟨x, hx⟩ : ∃ x : Nat, x = l[a].toNat := ⟨_, rfl⟩
          obtain ⟨ad, hAd, had, hcell⟩ := (HLi.out.below hb2).cell (k := a) (by rw [List.length_map]; exact hal)
          subst hAd
          have hcx : w2.cell? (ad.add a) = some (.int .u8 (x : Int)) := by rw [hcell, List.getElem_map, hx]; rfl
          obtain ⟨s, hs⟩ : ∃ s, s = S - 3 := ⟨_, rfl⟩
          have hsi : (S : Int) - 3 = (s : Int) := by omega
          have hs8 : s < 256 := by omega
          have hsw : IntKind.u8.wrap (s : Int) = (s : Int) := by rw [IntKind.wrap_u8]; omega
          have HX := Lib.hid hx
          have HSm := Lib.hid hs
          clear hx hs hcell
          have hL2 : Lies (w2.alloc (.cells #[.int .u8 (s : Int), .int .u8 (x : Int)] 5)) (some ⟨w2.heap.size, 0, none⟩) ([UInt8.ofNat s, l[a]].map bv) := by
            have h : Row (w2.alloc (.cells #[.int .u8 (s : Int), .int .u8 (x : Int)] 5)) w2.heap.size 5 [.int .u8 (s : Int), .int .u8 (x : Int)] := heap_alloc_new w2 _
            have he : [UInt8.ofNat s, l[a]].map bv = [.int .u8 (s : Int), .int .u8 (x : Int)] := by
              rw [HX.out]
              simp only [List.map_cons, List.map_nil, bv, UInt8.toNat_ofNat', Nat.reducePow]
              rw [Nat.mod_eq_of_lt hs8]
            rw [he]
            exact h.lies 0
          have hown3 := hown2.alloc (.cells #[.int .u8 (s : Int), .int .u8 (x : Int)] 5)
          have hb3 := hb2.alloc hz2 (.cells #[.int .u8 (s : Int), .int .u8 (x : Int)] 5)
          have hz3 := hb3.size
          clear hown2
          go_wp2_with (at_builtin; refine wpList_join elemB rfl _ _ rfl w.heap.size _ _ _ _ _ _ ([UInt8.ofNat s, l[a]].map bv) w rfl rfl (by simp) rfl hL2 (bv_one _) hown3 hb3 hz3 (by omega) (by omega) ?_)
          intro v4 w4 hown4 hb4 _ _
          have hown5 : w4.ownsRow w.heap.size 5 1 v4 (m ++ [UInt8.ofNat s, l[a]]).length ((m ++ [UInt8.ofNat s, l[a]]).map bv) := by
            rw [List.length_append, List.map_append]; exact hown4
          clear hown4 hown3 hb3 hz3 hL2 hb2 hz2
          go_wp2
          go_roundw
          case rel =>
            refine ⟨a + S, m ++ [UInt8.ofNat s, l[a]], by have := HN.out; omega, by go_num, ?_, hown5, hb4, hb4.size⟩
            rw [← HM.out, yput_run_at hal (by rw [← HSS.out]; exact h3), ← HSS.out, ← HSm.out, List.append_assoc]
          case measure => simp [intOf]; omega
        · have h3' : S < 3 := by omega
          have d0 : decide ((3 : Int) ≤ (S : Int)) = false := decide_eq_false (by omega)
          go_wp2
          go_loopw [7] (RPutRel6 l a w2) (fun e _ => n - (intOf e).toNat)
          case atStart => exact ⟨a, 0, 0, rfl, rfl, by have := HN.out; omega, by omega, rfl, rfl⟩
          case round =>
            obtain ⟨E, k, q, rfl, hEk, hE, hk128, hyl, hwi⟩ := hrel
            have HWI := Lib.hid hwi
            have HEk := Lib.hid hEk
            have HYL := Lib.hid hyl
            have hEn : E ≤ n := by have := HN.out; omega
            have hEa : (E : Int) - (a : Int) = (k : Int) := by omega
            have hEaa : a ≤ E := by omega
            clear hwi hyl hE
            obtain ⟨T, hT⟩ : ∃ T, T = ysame (l.drop E) := ⟨_, rfl⟩
            have HTT := Lib.hid hT
            have hbi3 := below_drewN hb2 q
            rw [← HWI.out] at hbi3
            have hli := HLi.out.below hbi3
            clear hEk hT
            by_cases h1 : E < n
            · have d1 : decide (E < n) = true := decide_eq_true h1
              have hEl : E < l.length := by have := HN.out; omega
              by_cases h2 : k < 128
              · have d2 : decide ((k : Int) < 128) = true := decide_eq_true (by omega)
                by_cases h5 : T < 3
                · have d3 : decide ((T : Int) < 3) = true := decide_eq_true (by omega)
                  have HST := Lib.hid (show ylist (l.drop (E + 1)) (k + 1) = ylist (l.drop a) 0 by
                    have h6 := HYL.out
                    rw [ylist_at hEl, if_pos ⟨h2, by rw [← HTT.out]; exact h5⟩] at h6
                    exact h6)
                  have hSE := HS.out E h1 wr hli
                  have HSE := Lib.hid hSE
                  clear hSE
                  go_wp2_with fail
                  refine HSE.out.mono ?_
                  rintro e wx ⟨rfl, qx, hwx⟩
                  rw [← HTT.out]
                  have HWX : Hid (wx = w2.drewN (q + qx)) := Lib.hid (by rw [hwx, HWI.out, World.drewN_drewN])
                  clear hwx
                  go_wp2
                  go_roundw
                  case rel => exact ⟨E + 1, k + 1, q + qx, by go_num, by have := HEk.out; omega, by omega, by omega, HST.out, HWX.out⟩
                  case measure => simp [intOf]; omega
                · have d3 : decide ((T : Int) < 3) = false := decide_eq_false (by omega)
                  have HK := Lib.hid (show ylist (l.drop a) 0 = k by
                    have h6 := HYL.out
                    rw [ylist_at hEl, if_neg (by rw [← HTT.out]; omega)] at h6
                    exact h6.symm)
                  have hSE := HS.out E h1 wr hli
                  have HSE := Lib.hid hSE
                  clear hSE
                  go_wp2_with fail
                  refine HSE.out.mono ?_
                  rintro e wx ⟨rfl, qx, hwx⟩
                  rw [← HTT.out]
                  have HWX : Hid (wx = w2.drewN (q + qx)) := Lib.hid (by rw [hwx, HWI.out, World.drewN_drewN])
                  clear hwx
                  have hk1 : 1 ≤ k := by
                    have h1 := ylist_pos (l := l.drop a) (by intro h; have := congrArg List.length h; rw [List.length_drop, List.length_nil] at this; omega) (by rw [← HSS.out]; exact h3')
                    rw [HK.out] at h1
                    exact h1
                  obtain ⟨cc, hcc⟩ : ∃ cc, cc = 256 - k := ⟨_, rfl⟩
                  have hc8 : cc < 256 := by omega
                  have hci : (256 : Int) - (k : Int) = (cc : Int) := by omega
                  have hcw : IntKind.u8.wrap (cc : Int) = (cc : Int) := by rw [IntKind.wrap_u8]; omega
                  have HCC := Lib.hid hcc
                  have hb3 := below_drewN hb2 (q + qx)
                  have hown3 := own_drewN hown2 (q + qx)
                  rw [← HWX.out] at hb3 hown3
                  have hz3 := hb3.size
                  clear hcc hbi3 hli
                  go_wp2_with (at_builtin; refine wpList_push elemB rfl _ _ rfl w.heap.size _ _ _ (.int .u8 (cc : Int)) wx w rfl rfl rfl rfl hown3 hb3 hz3 (by omega) (by omega) ?_)
                  intro v5 w5 hown5 hb5 _ _
                  have hown6 : w5.ownsRow w.heap.size 5 1 v5 (m.length + 1) ((m ++ [UInt8.ofNat cc]).map bv) := by
                    rw [List.map_append]
                    have : [UInt8.ofNat cc].map bv = [.int .u8 (cc : Int)] := by
                      simp only [List.map_cons, List.map_nil, bv, UInt8.toNat_ofNat', Nat.reducePow]
                      rw [Nat.mod_eq_of_lt hc8]
                    rw [this]
                    exact hown5
                  have hz5 := hb5.size
                  obtain ⟨vp, hvp, A6, c6, hv6, hA6, hc6, hm6, hl6⟩ := HP.out a E w5 (by omega) (by omega) (HLi.out.below hb5)
                  have hpl : ((l.drop a).take (E - a)).length = k := by rw [List.length_take, List.length_drop]; have := HN.out; have := HEk.out; omega
                  have hpm : (((l.drop a).take (E - a)).map bv).length = k := by rw [List.length_map]; exact hpl
                  have HPM := Lib.hid hpm
                  rw [hpl] at hv6 hA6
                  subst hv6
                  clear hpl hpm hown5 hown3 hb3 hz3
                  go_wp2_with (at_builtin; refine wpList_join elemB rfl _ _ rfl w.heap.size _ _ _ _ _ _ (((l.drop a).take (E - a)).map bv) w rfl rfl hA6 HPM.out hl6 (bv_one _) hown6 hb5 hz5 (by omega) (by omega) ?_)
                  intro v7 w7 hown7 hb7 _ _
                  have hfin : (m ++ [UInt8.ofNat cc] ++ (l.drop a).take (E - a)) ++ yput (l.drop E) = yput l := by
                    have h1 := yput_list_at hal (by rw [← HSS.out]; exact h3')
                    rw [HK.out, ← HCC.out] at h1
                    rw [← HM.out, h1, show E - a = k by have := HEk.out; omega, show E = a + k by exact HEk.out]
                    simp
                  have hown8 : w7.ownsRow w.heap.size 5 1 v7 (m ++ [UInt8.ofNat cc] ++ (l.drop a).take (E - a)).length ((m ++ [UInt8.ofNat cc] ++ (l.drop a).take (E - a)).map bv) := by
                    have e1 : (m ++ [UInt8.ofNat cc] ++ (l.drop a).take (E - a)).length = m.length + 1 + k := by
                      have := HPM.out
                      rw [List.length_map] at this
                      rw [List.length_append, List.length_append, this]; rfl
                    rw [e1]
                    simp only [List.map_append, List.map_cons, List.map_take, List.map_drop, List.append_assoc, List.cons_append, List.nil_append]
                    exact hown7
                  have HF := Lib.hid hfin
                  have hEa2 : a < E := by have := HEk.out; omega
                  clear hfin hown7 hown6 hb5 hz5 hl6 hvp
                  go_wp2
                  go_roundw
                  case rel => exact ⟨E, _, by have := HN.out; omega, rfl, HF.out, hown8, hb7, hb7.size⟩
                  case measure => simp [intOf]; omega
              · have d2 : decide ((k : Int) < 128) = false := decide_eq_false (by omega)
                have HK := Lib.hid (show ylist (l.drop a) 0 = k by
                  have h6 := HYL.out
                  rw [ylist_at hEl, if_neg (by omega)] at h6
                  exact h6.symm)
                have HWX := HWI
                have hk1 : 1 ≤ k := by
                  have h1 := ylist_pos (l := l.drop a) (by intro h; have := congrArg List.length h; rw [List.length_drop, List.length_nil] at this; omega) (by rw [← HSS.out]; exact h3')
                  rw [HK.out] at h1
                  exact h1
                obtain ⟨cc, hcc⟩ : ∃ cc, cc = 256 - k := ⟨_, rfl⟩
                have hc8 : cc < 256 := by omega
                have hci : (256 : Int) - (k : Int) = (cc : Int) := by omega
                have hcw : IntKind.u8.wrap (cc : Int) = (cc : Int) := by rw [IntKind.wrap_u8]; omega
                have HCC := Lib.hid hcc
                have hb3 := below_drewN hb2 (q)
                have hown3 := own_drewN hown2 (q)
                rw [← HWX.out] at hb3 hown3
                have hz3 := hb3.size
                clear hcc hbi3 hli
                go_wp2_with (at_builtin; refine wpList_push elemB rfl _ _ rfl w.heap.size _ _ _ (.int .u8 (cc : Int)) wr w rfl rfl rfl rfl hown3 hb3 hz3 (by omega) (by omega) ?_)
                intro v5 w5 hown5 hb5 _ _
                have hown6 : w5.ownsRow w.heap.size 5 1 v5 (m.length + 1) ((m ++ [UInt8.ofNat cc]).map bv) := by
                  rw [List.map_append]
                  have : [UInt8.ofNat cc].map bv = [.int .u8 (cc : Int)] := by
                    simp only [List.map_cons, List.map_nil, bv, UInt8.toNat_ofNat', Nat.reducePow]
                    rw [Nat.mod_eq_of_lt hc8]
                  rw [this]
                  exact hown5
                have hz5 := hb5.size
                obtain ⟨vp, hvp, A6, c6, hv6, hA6, hc6, hm6, hl6⟩ := HP.out a E w5 (by omega) (by omega) (HLi.out.below hb5)
                have hpl : ((l.drop a).take (E - a)).length = k := by rw [List.length_take, List.length_drop]; have := HN.out; have := HEk.out; omega
                have hpm : (((l.drop a).take (E - a)).map bv).length = k := by rw [List.length_map]; exact hpl
                have HPM := Lib.hid hpm
                rw [hpl] at hv6 hA6
                subst hv6
                clear hpl hpm hown5 hown3 hb3 hz3
                go_wp2_with (at_builtin; refine wpList_join elemB rfl _ _ rfl w.heap.size _ _ _ _ _ _ (((l.drop a).take (E - a)).map bv) w rfl rfl hA6 HPM.out hl6 (bv_one _) hown6 hb5 hz5 (by omega) (by omega) ?_)
                intro v7 w7 hown7 hb7 _ _
                have hfin : (m ++ [UInt8.ofNat cc] ++ (l.drop a).take (E - a)) ++ yput (l.drop E) = yput l := by
                  have h1 := yput_list_at hal (by rw [← HSS.out]; exact h3')
                  rw [HK.out, ← HCC.out] at h1
                  rw [← HM.out, h1, show E - a = k by have := HEk.out; omega, show E = a + k by exact HEk.out]
                  simp
                have hown8 : w7.ownsRow w.heap.size 5 1 v7 (m ++ [UInt8.ofNat cc] ++ (l.drop a).take (E - a)).length ((m ++ [UInt8.ofNat cc] ++ (l.drop a).take (E - a)).map bv) := by
                  have e1 : (m ++ [UInt8.ofNat cc] ++ (l.drop a).take (E - a)).length = m.length + 1 + k := by
                    have := HPM.out
                    rw [List.length_map] at this
                    rw [List.length_append, List.length_append, this]; rfl
                  rw [e1]
                  simp only [List.map_append, List.map_cons, List.map_take, List.map_drop, List.append_assoc, List.cons_append, List.nil_append]
                  exact hown7
                have HF := Lib.hid hfin
                have hEa2 : a < E := by have := HEk.out; omega
                clear hfin hown7 hown6 hb5 hz5 hl6 hvp
                go_wp2
                go_roundw
                case rel => exact ⟨E, _, by have := HN.out; omega, rfl, HF.out, hown8, hb7, hb7.size⟩
                case measure => simp [intOf]; omega
            · have d1 : decide (E < n) = false := decide_eq_false h1
              have HK := Lib.hid (show ylist (l.drop a) 0 = k by
                have h6 := HYL.out
                rw [List.drop_of_length_le (by have := HN.out; omega)] at h6
                exact h6.symm)
              have HWX := HWI
              have hk1 : 1 ≤ k := by
                have h1 := ylist_pos (l := l.drop a) (by intro h; have := congrArg List.length h; rw [List.length_drop, List.length_nil] at this; omega) (by rw [← HSS.out]; exact h3')
                rw [HK.out] at h1
                exact h1
              obtain ⟨cc, hcc⟩ : ∃ cc, cc = 256 - k := ⟨_, rfl⟩
              have hc8 : cc < 256 := by omega
              have hci : (256 : Int) - (k : Int) = (cc : Int) := by omega
              have hcw : IntKind.u8.wrap (cc : Int) = (cc : Int) := by rw [IntKind.wrap_u8]; omega
              have HCC := Lib.hid hcc
              have hb3 := below_drewN hb2 (q)
              have hown3 := own_drewN hown2 (q)
              rw [← HWX.out] at hb3 hown3
              have hz3 := hb3.size
              clear hcc hbi3 hli
              go_wp2_with (at_builtin; refine wpList_push elemB rfl _ _ rfl w.heap.size _ _ _ (.int .u8 (cc : Int)) wr w rfl rfl rfl rfl hown3 hb3 hz3 (by omega) (by omega) ?_)
              intro v5 w5 hown5 hb5 _ _
              have hown6 : w5.ownsRow w.heap.size 5 1 v5 (m.length + 1) ((m ++ [UInt8.ofNat cc]).map bv) := by
                rw [List.map_append]
                have : [UInt8.ofNat cc].map bv = [.int .u8 (cc : Int)] := by
                  simp only [List.map_cons, List.map_nil, bv, UInt8.toNat_ofNat', Nat.reducePow]
                  rw [Nat.mod_eq_of_lt hc8]
                rw [this]
                exact hown5
              have hz5 := hb5.size
              obtain ⟨vp, hvp, A6, c6, hv6, hA6, hc6, hm6, hl6⟩ := HP.out a E w5 (by omega) (by omega) (HLi.out.below hb5)
              have hpl : ((l.drop a).take (E - a)).length = k := by rw [List.length_take, List.length_drop]; have := HN.out; have := HEk.out; omega
              have hpm : (((l.drop a).take (E - a)).map bv).length = k := by rw [List.length_map]; exact hpl
              have HPM := Lib.hid hpm
              rw [hpl] at hv6 hA6
              subst hv6
              clear hpl hpm hown5 hown3 hb3 hz3
              go_wp2_with (at_builtin; refine wpList_join elemB rfl _ _ rfl w.heap.size _ _ _ _ _ _ (((l.drop a).take (E - a)).map bv) w rfl rfl hA6 HPM.out hl6 (bv_one _) hown6 hb5 hz5 (by omega) (by omega) ?_)
              intro v7 w7 hown7 hb7 _ _
              have hfin : (m ++ [UInt8.ofNat cc] ++ (l.drop a).take (E - a)) ++ yput (l.drop E) = yput l := by
                have h1 := yput_list_at hal (by rw [← HSS.out]; exact h3')
                rw [HK.out, ← HCC.out] at h1
                rw [← HM.out, h1, show E - a = k by have := HEk.out; omega, show E = a + k by exact HEk.out]
                simp
              have hown8 : w7.ownsRow w.heap.size 5 1 v7 (m ++ [UInt8.ofNat cc] ++ (l.drop a).take (E - a)).length ((m ++ [UInt8.ofNat cc] ++ (l.drop a).take (E - a)).map bv) := by
                have e1 : (m ++ [UInt8.ofNat cc] ++ (l.drop a).take (E - a)).length = m.length + 1 + k := by
                  have := HPM.out
                  rw [List.length_map] at this
                  rw [List.length_append, List.length_append, this]; rfl
                rw [e1]
                simp only [List.map_append, List.map_cons, List.map_take, List.map_drop, List.append_assoc, List.cons_append, List.nil_append]
                exact hown7
              have HF := Lib.hid hfin
              have hEa2 : a < E := by have := HEk.out; omega
              clear hfin hown7 hown6 hb5 hz5 hl6 hvp
              go_wp2
              go_roundw
              case rel => exact ⟨E, _, by have := HN.out; omega, rfl, HF.out, hown8, hb7, hb7.size⟩
              case measure => simp [intOf]; omega
      · obtain rfl : a = n := by omega
        go_wp2
        go_ret2
        rw [hE.out]
        have h1 := HM.out
        rw [List.drop_of_length_le (by have := HN.out; omega), yput_nil, List.append_nil] at h1
        subst h1
        exact ⟨_, rfl, isB_own hown, hbw⟩
  · have hE : Hid (yputE l = ([], 3)) := Lib.hid (by unfold yputE; rw [if_neg (by omega)])
    have hbi : (4096 : Int) < (n : Int) := by omega
    clear hn hl hcm hA hnc
    go_enter Try.func36, Try.ntmps36
    go_wp2
    go_ret2
    rw [hE.out]
    exact RetE.nil _ (Below.refl _ _)
end Go.Proofs.Ytffglnccpbbclaa
