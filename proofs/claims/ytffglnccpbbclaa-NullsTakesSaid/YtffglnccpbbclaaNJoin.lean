
/- nulls' own contracts: Join, with the closure that it hands to each. Written by gen_njoin.py. -/

import Derived.Test.YtffglnccpbbclaaNOwn

namespace Go.Proofs.Ytffglnccpbbclaa

open Go.RowKit

theorem gives_notN {P : Program} {o : Oper} {ρ : Operand → Value} {w : World} {R : Value → World → Prop} {t : TypeId} {x : Operand} {b : Bool} (ho : o.op = .unOp .not t x) (hx : ρ x = .bool b) (hR : R (.bool !b) w) : Gives P o ρ w R := by
  refine gives_of (v := .bool !b) (w' := w) ?_ hR
  unfold execOp
  simp only [ho, hx]
  rfl
theorem qcount_false (p : List Bool) : qcount (false :: p) = qcount p := by unfold qcount; simp
theorem qcount_true (p : List Bool) : qcount (true :: p) = qcount p + 1 := by unfold qcount; simp
theorem qcount_part (p : List Bool) (k : Nat) : qcount (p.take k) ≤ qcount p := by
  unfold qcount
  exact ((List.take_sublist k p).filter _).length_le
theorem nsome_cons (x : CV) (l : List CV) : nsome (x :: l) = if x.null then nsome l else x :: nsome l := by
  unfold nsome
  rw [List.filter_cons]
  cases x.null <;> rfl
/-- What Join puts together: as many as are true, and all of them something. -/
theorem njoin_iff : ∀ (p : List Bool) (s : List CV), (njoin p s).isSome = true ↔ (qcount p = s.length ∧ (nsome s).length = s.length)
  | [], [] => by simp [njoin, qcount, nsome]
  | [], x :: s => by
    have h : njoin [] (x :: s) = none := rfl
    rw [h]
    simp [qcount]
  | false :: p, s => by
    have h : njoin (false :: p) s = (njoin p s).map (nul :: ·) := rfl
    rw [h, Option.isSome_map, njoin_iff p s, qcount_false]
  | true :: p, [] => by
    have h : njoin (true :: p) [] = none := rfl
    rw [h, qcount_true]
    simp
  | true :: p, x :: s => by
    have h : njoin (true :: p) (x :: s) = if x.null then none else (njoin p s).map (x :: ·) := rfl
    rw [h, qcount_true, nsome_cons]
    have hl := nsome_len s
    cases hx : x.null with
    | true =>
      rw [if_pos rfl, if_pos rfl, List.length_cons]
      constructor
      · intro h; cases h
      · intro ⟨_, h⟩; omega
    | false =>
      rw [if_neg (by simp), if_neg (by simp), Option.isSome_map, njoin_iff p s, List.length_cons, List.length_cons]
      omega
theorem njoin_none {p : List Bool} {s : List CV} (h : ¬ (qcount p = s.length ∧ (nsome s).length = s.length)) : njoin p s = none := by
  have h1 := mt (njoin_iff p s).1 h
  cases hj : njoin p s with
  | none => rfl
  | some l => rw [hj] at h1; exact absurd rfl h1
theorem nsome_all {s : List CV} (h : (nsome s).length = s.length) {k : Nat} (hk : k < s.length) : s[k].null = false := by
  unfold nsome at h
  have h1 := List.length_filter_eq_length_iff.1 h s[k] (List.getElem_mem hk)
  simpa using h1
/-- The closure, where nothing is there. -/
theorem njoin1_no (nb sb : Nat) (w : World) : Calls Try.prog 24 #[.bool false, .pointer (some ⟨nb, 0, none⟩), .pointer (some ⟨sb, 0, none⟩)] w fun e w' => e = .returned (cv nul) ∧ Below w.heap.size w w' := by
  have hA := box_row nul w
  have a0 := hA.cell 0
  have a1 := hA.cell 1
  have a2 := hA.cell 2
  have HB := Lib.hid (show Below w.heap.size w (w.alloc (.cells #[.bool true, .int .i64 0, .string ⟨#[]⟩] 42)) from (Below.refl _ _).alloc (Nat.le_refl _) _)
  unfold nul at a0 a1 a2
  have HA := Lib.hid hA
  clear hA
  go_enter Try.func24, Try.ntmps24
  go_wp2
  refine bodyPost_ret (v := cv nul) (results_cell_row rfl _ _ w.heap.size _ _ (0, 0) _ rfl HA.out Try.underlying42 rfl (by kernel_rfl)) rfl ?_
  exact ⟨rfl, HB.out⟩
theorem row_set_here {w : World} {g : Nat} {t : TypeId} {x y : Value} (h : Row w g t [x]) : Row (w.setCell ⟨g, 0, none⟩ y) g t [y] := h.set_ 0 y
theorem rows_set {w : World} {g : Nat} (y : Value) : ∀ k ty l, k ≠ g → Row w k ty l → Row (w.setCell ⟨g, 0, none⟩ y) k ty l := fun _ _ _ hk h => h.far (p := ⟨g, 0, none⟩) hk y
theorem infoV_size : (Try.prog.info? 42).map (·.size) = some 3 := by kernel_rfl
set_option maxHeartbeats 2000000 in
set_option maxRecDepth 100000 in
/-- The closure, where the next one is there: its number is one more then. -/
theorem njoin1_yes (s : List CV) (sv : Value) (nb sb k : Nat) (w0 w : World) (hs : IsR kcells s sv w0) (hw : Below w0.heap.size w0 w) (hn : Row w nb 3 [.int .i64 (k : Int)]) (hsb : Row w sb 22 [sv]) (hnb : w0.heap.size ≤ nb) (hk : k < s.length) (hb : s.length ≤ 1000000) :
    Calls Try.prog 24 #[.bool true, .pointer (some ⟨nb, 0, none⟩), .pointer (some ⟨sb, 0, none⟩)] w
      fun e w' => e = .returned (cv s[k]) ∧ Row w' nb 3 [.int .i64 ((k + 1 : Nat) : Int)] ∧ (∀ j ty l, j ≠ nb → Row w j ty l → Row w' j ty l) ∧ Below w0.heap.size w0 w' := by
  have hne : sb ≠ nb := by
    rintro rfl
    have h := hn.symm.trans hsb
    injection h with h
    injection h with _ h
    exact absurd h (by decide)
  obtain ⟨w1, hw1⟩ : ∃ w1, w1 = w.alloc (.cells #[.bool false, .int .i64 0, .string ⟨#[]⟩] 42) := ⟨_, rfl⟩
  have hn1 : Row w1 nb 3 [.int .i64 (k : Int)] := by rw [hw1]; exact hn.alloc _
  have hs1 : Row w1 sb 22 [sv] := by rw [hw1]; exact hsb.alloc _
  have hr1 : Row w1 w.heap.size 42 (kcells ⟨false, 0, ⟨#[]⟩⟩) := by rw [hw1]; exact heap_alloc_new w _
  have hlt := hn.lt
  have hb1 : Below w0.heap.size w0 w1 := by rw [hw1]; exact hw.alloc hw.size _
  obtain ⟨w2, hw2⟩ : ∃ w2, w2 = w1.setCell ⟨nb, 0, none⟩ (.int .i64 ((k : Int) + 1)) := ⟨_, rfl⟩
  have hn2 : Row w2 nb 3 [.int .i64 ((k : Int) + 1)] := by rw [hw2]; exact row_set_here hn1
  have hs2 : Row w2 sb 22 [sv] := by rw [hw2]; exact rows_set _ _ _ _ hne hs1
  have hr2 : Row w2 w.heap.size 42 (kcells ⟨false, 0, ⟨#[]⟩⟩) := by rw [hw2]; exact rows_set _ _ _ _ (by omega) hr1
  have hb2 : Below w0.heap.size w0 w2 := by rw [hw2]; exact hb1.setCell (p := ⟨nb, 0, none⟩) hnb _
  have HK := Lib.hid (show ∀ j ty l, j ≠ nb → Row w j ty l → Row w2 j ty l from fun j ty l hj h => by rw [hw2, hw1]; exact rows_set _ _ _ _ hj (h.alloc _))
  obtain ⟨A, m, c, rfl⟩ := hs.shape
  have hm := hs.parts.1
  have hkm : k < m := by omega
  have hm6 : m ≤ 1000000 := by omega
  have hkm2 : (k : Int) < (m : Int) := by omega
  obtain ⟨ad, rfl, _, hcell⟩ := (hs.below hb2).at (m := 3) (fun _ => rfl) (by omega) hk
  obtain ⟨x, hx⟩ : ∃ x, x = s[k] := ⟨_, rfl⟩
  rw [← hx] at hcell
  obtain ⟨k0, k1, k2⟩ := cells3 hcell
  obtain ⟨xb, xn, xs⟩ := x
  dsimp only at k0 k1 k2
  have n1 := hn1.cell 0
  have f1 := hn1.free 0
  have s1 := hs1.cell 0
  have n2 := hn2.cell 0
  have s2 := hs2.cell 0
  have HX : Hid (cv s[k] = cv ⟨xb, xn, xs⟩) := Lib.hid (by rw [hx])
  obtain ⟨res, hres⟩ : ∃ r, r = cv s[k] := ⟨_, rfl⟩
  rw [← hres] at HX ⊢
  have HN2 := Lib.hid hn2
  have HS2 := Lib.hid hs2
  have HR2 := Lib.hid hr2
  have HB2 := Lib.hid hb2
  have HLT := Lib.hid hlt
  have HNB := Lib.hid hnb
  have HZ := Lib.hid hw.size
  clear hres hx hn1 hs1 hn2 hs2 hr2 hr1 hb1 hb2 hw hn hsb hs hcell hlt hm hk hb hne hnb
  subst hw2
  subst hw1
  go_enter Try.func24, Try.ntmps24
  go_wp2_with (refine wpList_storeW rfl _ _ _ rfl w.heap.size 0 42 (kcells ⟨false, 0, ⟨#[]⟩⟩) (kcells ⟨xb, xn, xs⟩) (kcells ⟨xb, xn, xs⟩) rfl rfl rfl HR2.out infoV_size (Nat.le_refl _) (kcells_one _) w0 w0.heap.size HB2.out HZ.out ?_)
  intro w3 hr3 hb3 hk3
  have c0 := hr3.cell 0
  have c1 := hr3.cell 1
  have c2 := hr3.cell 2
  have HR3 := Lib.hid hr3
  have HB3 := Lib.hid hb3
  have HK3 := Lib.hid hk3
  clear hr3 hb3 hk3 k0 k1 k2 n1 f1 s1 n2 s2
  go_wp2
  refine bodyPost_ret (v := cv ⟨xb, xn, xs⟩) (results_cell_row rfl _ _ w.heap.size _ _ (0, 0) _ rfl HR3.out Try.underlying42 rfl (by kernel_rfl)) rfl ?_
  refine ⟨by rw [HX.out], ?_, ?_, HB3.out⟩
  · exact HK3.out _ _ _ (by have := HLT.out; omega) HN2.out
  · intro j ty l hj h
    exact HK3.out _ _ _ (by have := h.lt; omega) (HK.out j ty l hj h)
def NJnRel (p : List Bool) (s : List CV) (sv : Value) (nb sb g n : Nat) (w0 : World) (i : Value) (wr : World) : Prop :=
  ∃ (k : Nat) (acc : List CV) (rest : List Value), k ≤ n ∧ i = .int .i64 (k : Int) ∧ acc.length = k ∧ njoin p s = (njoin (p.drop k) (s.drop (qcount (p.take k)))).map (acc ++ ·) ∧ rest.length = (n - k) * 3 ∧
    Row wr g 42 (acc.flatMap kcells ++ rest) ∧ Row wr nb 3 [.int .i64 (qcount (p.take k) : Int)] ∧ Row wr sb 22 [sv] ∧ Below w0.heap.size w0 wr
theorem new_cells {acc : List CV} {rest : List Value} (k : Nat) (x : CV) (h : acc.length = k) : (acc.flatMap kcells ++ rest).take (k * 3) ++ kcells x ++ (acc.flatMap kcells ++ rest).drop (k * 3 + (kcells x).length) = (acc ++ [x]).flatMap kcells ++ rest.drop 3 := by
  have hl1 : (acc.flatMap kcells).length = k * 3 := by rw [flat_len (m := 3) (fun _ => rfl), h]
  rw [List.take_append_of_le_length (by omega), List.take_of_length_le (by omega), List.drop_append, hl1, List.drop_of_length_le (by rw [hl1]; exact Nat.le_add_right _ _), flat_snoc, show (kcells x).length = 3 from rfl, show k * 3 + 3 - k * 3 = 3 by omega, List.nil_append]
set_option maxHeartbeats 4000000 in
set_option maxRecDepth 100000 in
/-- What Join hands to each. -/
theorem neachB_any (p : List Bool) (s : List CV) (u sv : Value) (nb sb : Nat) (w0 W : World) (hu : IsV Value.bool p u w0) (hs : IsR kcells s sv w0) (hW : Below w0.heap.size w0 W) (hnb : Row W nb 3 [.int .i64 0]) (hsb : Row W sb 22 [sv]) (hn0 : w0.heap.size ≤ nb)
    (hc : qcount p = s.length) (hall : (nsome s).length = s.length) (hb : p.length ≤ 1000000) (hb' : s.length ≤ 1000000) (l : List CV) (hj : njoin p s = some l) :
    Calls Try.prog 23 #[u, .func (.func 24) #[] #[.pointer (some ⟨nb, 0, none⟩), .pointer (some ⟨sb, 0, none⟩)]] W
      fun e w' => ∃ v, e = .returned v ∧ IsR kcells l v w' ∧ Below w0.heap.size w0 w' := by
  obtain ⟨B, n, c, rfl⟩ := hu.shape
  have HN := Lib.hid hu.parts.1
  have HU := Lib.hid hu
  have HS := Lib.hid hs
  have hn6 : n ≤ 1000000 := by have := HN.out; omega
  have HC := Lib.hid hc
  have HALL := Lib.hid hall
  have HJ := Lib.hid hj
  have HZ := Lib.hid hW.size
  have HNL := Lib.hid hnb.lt
  have HSL := Lib.hid hsb.lt
  have HN0 := Lib.hid hn0
  have HB6 := Lib.hid hb'
  have HW := Lib.hid hW
  have HNB := Lib.hid hnb
  have HSB := Lib.hid hsb
  clear hu hs hc hall hj hn0 hb hb' hW hnb hsb
  go_enter Try.func23, Try.ntmps23
  go_wp2_with (refine wpList_makeW elemW (kcells ⟨false, 0, ⟨#[]⟩⟩) rfl rfl _ _ rfl _ _ _ _ n W W.heap.size rfl rfl rfl rfl (by omega) (by omega) (Below.refl _ _) (Nat.le_refl _) ?_)
  intro w1 hr1 hb1
  have hlen : ((List.replicate n (kcells ⟨false, 0, ⟨#[]⟩⟩)).flatten).length = n * 3 := by rw [← flat_replicate (f := kcells) n ⟨false, 0, ⟨#[]⟩⟩, flat_len (m := 3) (fun _ => rfl), List.length_replicate]
  have HST := Lib.hid (show NJnRel p s sv nb sb W.heap.size n w0 (.int .i64 0) w1 from ⟨0, [], _, Nat.zero_le _, rfl, rfl, by simp [qcount], by simpa using hlen, hr1, HNB.out.below hb1 HNL.out, HSB.out.below hb1 HSL.out, HW.out.trans (hb1.mono HZ.out)⟩)
  clear hr1 hb1 hlen
  go_wp2
  go_loopw [13] (NJnRel p s sv nb sb W.heap.size n w0) (fun i _ => n - (intOf i).toNat)
  case atStart => exact HST.out
  case round =>
    obtain ⟨k, acc, rest, hk, rfl, hal, hjk, hrl, hrow, hnr, hsr, hbr⟩ := hrel
    have HAL := Lib.hid hal
    have HJK := Lib.hid hjk
    have HRL := Lib.hid hrl
    have HROW := Lib.hid hrow
    have HNR := Lib.hid hnr
    have HSR := Lib.hid hsr
    have HBR := Lib.hid hbr
    clear hal hjk hrl hrow hnr hsr hbr
    by_cases hlt : k < n
    · have hkl : k < p.length := by have := HN.out; omega
      have hlti : (k : Int) < (n : Int) := by omega
      obtain ⟨ad, rfl, had, hcell⟩ := (HU.out.below HBR.out).at hkl
      obtain ⟨b, hbk⟩ : ∃ b, b = p[k] := ⟨_, rfl⟩
      rw [← hbk] at hcell
      have HQ := Lib.hid (qcount_snoc p hkl)
      have HQL := Lib.hid (qcount_part p (k + 1))
      have HBK := Lib.hid hbk
      have hgw : W.heap.size < wr.heap.size := HROW.out.lt
      have HFIT := Lib.hid (show ∀ x : CV, k * 3 + (kcells x).length ≤ (acc.flatMap kcells ++ rest).length from fun x => by
        rw [List.length_append, flat_len (m := 3) (fun _ => rfl), HAL.out, HRL.out, show (kcells x).length = 3 from rfl]; omega)
      have HNEW := Lib.hid (fun x => new_cells (rest := rest) k x HAL.out)
      have HR3 := Lib.hid (show (rest.drop 3).length = (n - (k + 1)) * 3 by rw [List.length_drop, HRL.out]; omega)
      clear had hbk
      cases b with
      | false =>
        have hq : qcount (p.take (k + 1)) = qcount (p.take k) := by rw [HQ.out, ← HBK.out]; rfl
        have HJN := Lib.hid ((HJK.out).trans (njoin_nul (s := s) (at_ := qcount (p.take k)) hkl HBK.out.symm acc))
        rw [← hq] at HJN HNR
        clear HQ hq
        go_wp2_with fail
        refine (njoin1_no nb sb wr).mono ?_
        rintro e w2 ⟨rfl, hb2⟩
        have hrow2 := HROW.out.below hb2 HROW.out.lt
        have HN2 := Lib.hid (HNR.out.below hb2 HNR.out.lt)
        have HS2 := Lib.hid (HSR.out.below hb2 HSR.out.lt)
        have HB2 := Lib.hid (HBR.out.trans (hb2.mono HBR.out.size))
        clear hb2
        go_wp2_with (refine wpList_storeW rfl 42 _ _ rfl W.heap.size (k * 3) 42 (acc.flatMap kcells ++ rest) (kcells nul) _ (HNEW.out nul) rfl rfl hrow2 infoV_size (HFIT.out nul) (kcells_one _) w0 w0.heap.size HB2.out HZ.out ?_)
        intro w3 hr3 hb3 hk3
        have HN3 := Lib.hid (hk3 _ _ _ (by have := HNL.out; omega) HN2.out)
        have HS3 := Lib.hid (hk3 _ _ _ (by have := HSL.out; omega) HS2.out)
        have HR4 : Hid (Row w3 W.heap.size 42 ((acc ++ [nul]).flatMap kcells ++ rest.drop 3)) := Lib.hid (by simpa using hr3)
        have HB3 := Lib.hid hb3
        clear hr3 hb3 hk3 hrow2 hcell
        go_wp2
        go_roundw
        case rel => exact ⟨k + 1, acc ++ [nul], rest.drop 3, hlt, by go_num, by rw [List.length_append, HAL.out]; rfl, HJN.out, HR3.out, HR4.out, HN3.out, HS3.out, HB3.out⟩
        case measure => simp [intOf]; omega
      | true =>
        obtain ⟨a, ha⟩ : ∃ a, a = qcount (p.take k) := ⟨_, rfl⟩
        have hq : qcount (p.take (k + 1)) = a + 1 := by rw [HQ.out, ← HBK.out, ha]; rfl
        have has : a < s.length := by have h1 := HQL.out; have h2 := HC.out; omega
        have HJN := Lib.hid ((HJK.out).trans (njoin_next (s := s) (at_ := qcount (p.take k)) hkl HBK.out.symm (by rw [← ha]; exact has) (nsome_all HALL.out (by rw [← ha]; exact has)) acc))
        rw [← ha] at HNR
        have HQ2 := Lib.hid hq
        have HA := Lib.hid ha
        have HY := Lib.hid (njoin1_yes s sv nb sb a w0 wr HS.out HBR.out HNR.out HSR.out HN0.out has HB6.out)
        obtain ⟨x, hx⟩ : ∃ x, x = s[a] := ⟨_, rfl⟩
        have HJN2 : Hid (njoin p s = (njoin (p.drop (k + 1)) (s.drop (qcount (p.take (k + 1))))).map ((acc ++ [x]) ++ ·)) := Lib.hid (by
          rw [hq, hx]
          have h := HJN.out
          simp only [← ha] at h
          exact h)
        rw [← hx] at HY
        clear HQ HQL hq ha hx HJN has
        go_wp2_with fail
        refine HY.out.mono ?_
        rintro e w2 ⟨rfl, hn2, hk2, hb2⟩
        have hrow2 := hk2 _ _ _ (by have := HNL.out; omega) HROW.out
        have hne : sb ≠ nb := by
          rintro rfl
          have h := HNR.out.symm.trans HSR.out
          injection h with h
          injection h with _ h
          exact absurd h (by decide)
        have HS2 := Lib.hid (hk2 _ _ _ hne HSR.out)
        have HN2 := Lib.hid hn2
        have HB2 := Lib.hid hb2
        clear hb2 hn2 hk2 hne
        go_wp2_with (refine wpList_storeW rfl 42 _ _ rfl W.heap.size (k * 3) 42 (acc.flatMap kcells ++ rest) (kcells x) _ (HNEW.out x) rfl rfl hrow2 infoV_size (HFIT.out x) (kcells_one _) w0 w0.heap.size HB2.out HZ.out ?_)
        intro w3 hr3 hb3 hk3
        have HN3 := Lib.hid (hk3 _ _ _ (by have := HNL.out; omega) HN2.out)
        have HS3 := Lib.hid (hk3 _ _ _ (by have := HSL.out; omega) HS2.out)
        have HR4 : Hid (Row w3 W.heap.size 42 ((acc ++ [x]).flatMap kcells ++ rest.drop 3)) := Lib.hid (by simpa using hr3)
        have HB3 := Lib.hid hb3
        clear hr3 hb3 hk3 hrow2 hcell
        go_wp2
        go_roundw
        case rel => exact ⟨k + 1, acc ++ [x], rest.drop 3, hlt, by go_num, by rw [List.length_append, HAL.out]; rfl, HJN2.out, HR3.out, HR4.out, by rw [HQ2.out]; exact HN3.out, HS3.out, HB3.out⟩
        case measure => simp [intOf]; omega
    · obtain rfl : k = n := by omega
      have hlti : ¬ (k : Int) < (k : Int) := by omega
      obtain rfl : rest = [] := List.eq_nil_of_length_eq_zero (by rw [HRL.out]; omega)
      have HL : Hid (acc = l) := Lib.hid (by
        have h1 := HJK.out
        rw [HJ.out, njoin_end (p := p) (s := s) (Nat.le_of_eq HN.out), List.take_of_length_le (Nat.le_of_eq HN.out), if_neg (by have := HC.out; omega)] at h1
        simpa using h1.symm)
      have HR9 := HROW
      rw [List.append_nil] at HR9
      go_wp2
      go_ret
      refine ⟨_, rfl, ?_, HBR.out⟩
      rw [← HL.out]
      exact isR_row HR9.out HAL.out (by omega)
set_option maxHeartbeats 4000000 in
set_option maxRecDepth 100000 in
theorem njoin_any (p : List Bool) (s : List CV) (u v : Value) (w : World) (hu : IsV Value.bool p u w) (hv : IsR kcells s v w) (hb : p.length ≤ 1000000) (hb' : s.length ≤ 1000000) : Calls Try.prog 11 #[u, v] w (RetRE w (njoinE p s)) := by
  obtain ⟨A, m, c, rfl⟩ := hv.shape
  have hbox : Row (w.alloc (.cells #[.slice A m c] 22)) w.heap.size 22 [.slice A m c] := heap_alloc_new w _
  have hb0 : Below w.heap.size w (w.alloc (.cells #[.slice A m c] 22)) := (Below.refl _ _).alloc (Nat.le_refl _) _
  have HB0 := Lib.hid hb0
  have HBOX := Lib.hid hbox
  have HLB := Lib.hid hbox.lt
  have HCB := Lib.hid (hbox.cell 0)
  have HPL := Lib.hid hb
  have HSL := Lib.hid hb'
  have HM := Lib.hid hv.parts.1
  have hu1 : IsV Value.bool p u (w.alloc (.cells #[.slice A m c] 22)) := hu.below hb0
  have HU1 := Lib.hid hu1
  have HV1 := Lib.hid (hv.below hb0)
  have HU := Lib.hid hu
  have HV := Lib.hid hv
  have HCT := Lib.hid (qcount_present s)
  clear hbox hb0 hb hb' hu1 hu hv
  by_cases h1 : qcount p = m
  · by_cases h2 : (nsome s).length = s.length
    · have HQ := Lib.hid (show ((qcount p : Int) != (m : Int)) = false by rw [h1]; simp)
      have HW := Lib.hid (show (qcount (npresent s) == (npresent s).length) = true by rw [HCT.out, npresent_len, beq_iff_eq]; exact h2)
      have HOK : Hid (∃ l, njoin p s = some l) := Lib.hid (Option.isSome_iff_exists.1 ((njoin_iff p s).2 ⟨h1.trans HM.out.symm, h2⟩))
      have HC := Lib.hid (h1.trans HM.out.symm)
      have HALL := Lib.hid h2
      clear h1 h2
      go_enter Try.func11, Try.ntmps11
      go_wp2_with fail
      refine wp_region_list [.is (u), .is (.int .i64 (qcount p : Int)), .is (.slice A m c), .is (.int .i64 (m : Int)), .is (.bool false), .is (.bool false), .is (.slice A m c), .vals Value.bool (npresent s), .is (.bool true), .is (.bool false), .is (.bool false)] [some 7, some 8, some 9, some 10, some 11, some 12, some 13, some 14, some 15, some 16, some 17] (by kernel_rfl) (by kernel_rfl) (by kernel_rfl) rfl ⟨?_, ?_, ?_, ?_, ?_, ?_, ?_, ?_, ?_, ?_, ?_, trivial⟩ ?_
      · intro ρ W1 hb1 H
        exact gives_move rfl (H.old 0 _ (by kernel_rfl) rfl) ⟨rfl, Below.refl _ _⟩
      · intro ρ W1 hb1 H
        have e0 : ρ (.tmp 7) = u := H.new 7 0 (by kernel_rfl)
        refine gives_call rfl (fun _ _ => by kernel_rfl) (H.func _) (args := #[u]) (by simp [e0]) ?_
        exact (qcount_is p u W1 (HU1.out.below hb1) HPL.out).mono fun _ _ ⟨h, h2⟩ => ⟨_, h, ⟨rfl, by subst h2; exact Below.refl _ _⟩⟩
      · intro ρ W1 hb1 H
        exact gives_load rfl (H.old 3 _ (by kernel_rfl) rfl) Try.underlying22 rfl ((hb1.cell HLB.out).trans HCB.out) ⟨rfl, Below.refl _ _⟩
      · intro ρ W1 hb1 H
        exact gives_len Try.underlying22 rfl (H.new 9 2 (by kernel_rfl)) ⟨rfl, Below.refl _ _⟩
      · intro ρ W1 hb1 H
        exact gives_intne rfl (H.new 8 1 (by kernel_rfl)) (H.new 10 3 (by kernel_rfl)) ⟨congrArg Value.bool HQ.out, Below.refl _ _⟩
      · intro ρ W1 hb1 H
        exact gives_move rfl (H.new 11 4 (by kernel_rfl)) ⟨rfl, Below.refl _ _⟩
      · intro ρ W1 hb1 H d hd
        have hd' : (some 12 : Option Tmp) = some d := hd
        injection hd' with hd'
        subst hd'
        refine ⟨fun _ => ?_, fun hne => absurd (H.new 12 5 (by kernel_rfl)) hne⟩
        exact gives_load rfl (H.old 3 _ (by kernel_rfl) rfl) Try.underlying22 rfl ((hb1.cell HLB.out).trans HCB.out) ⟨rfl, Below.refl _ _⟩
      · intro ρ W1 hb1 H d hd
        have hd' : (some 12 : Option Tmp) = some d := hd
        injection hd' with hd'
        subst hd'
        refine ⟨fun _ => ?_, fun hne => absurd (H.new 12 5 (by kernel_rfl)) hne⟩
        have e0 : ρ (.tmp 13) = .slice A m c := (H.new 13 6 (by kernel_rfl))
        refine gives_call rfl (fun _ _ => by kernel_rfl) (H.func _) (args := #[.slice A m c, .func (.func 19) #[] #[]]) (by simp [e0, H.func]) ?_
        exact (neachV_any s _ W1 (HV1.out.below hb1) HSL.out).mono fun _ _ ⟨x, h1, h2, h3⟩ => ⟨x, h1, h2, h3⟩
      · intro ρ W1 hb1 H d hd
        have hd' : (some 12 : Option Tmp) = some d := hd
        injection hd' with hd'
        subst hd'
        refine ⟨fun _ => ?_, fun hne => absurd (H.new 12 5 (by kernel_rfl)) hne⟩
        have e0 : IsV Value.bool (npresent s) (ρ (.tmp 14)) W1 := (H.new 14 7 (by kernel_rfl))
        refine gives_call rfl (fun _ _ => by kernel_rfl) (H.func _) (args := #[ρ (.tmp 14)]) (by simp) ?_
        exact (nwhole_any _ _ true W1 e0 (by rw [npresent_len]; exact HSL.out) HW.out).mono fun _ _ ⟨h, h2⟩ => ⟨_, h, ⟨rfl, by subst h2; exact Below.refl _ _⟩⟩
      · intro ρ W1 hb1 H d hd
        have hd' : (some 12 : Option Tmp) = some d := hd
        injection hd' with hd'
        subst hd'
        refine ⟨fun _ => ?_, fun hne => absurd (H.new 12 5 (by kernel_rfl)) hne⟩
        exact gives_notN rfl (H.new 15 8 (by kernel_rfl)) ⟨rfl, Below.refl _ _⟩
      · intro ρ W1 hb1 H
        exact gives_pick_f rfl (H.new 12 5 (by kernel_rfl)) (H.new 16 9 (by kernel_rfl)) ⟨rfl, Below.refl _ _⟩
      · intro vs W1 hb1 hfs
        have f10 : vs 10 = .bool false := hfs 10 (by decide)
        clear hfs
        simp only [putAll, Nat.zero_add, Nat.reduceAdd]
        generalize vs 0 = z0
        generalize vs 1 = z1
        generalize vs 2 = z2
        generalize vs 3 = z3
        generalize vs 4 = z4
        generalize vs 5 = z5
        generalize vs 6 = z6
        generalize vs 7 = z7
        generalize vs 8 = z8
        generalize vs 9 = z9
        simp only [f10, Act.put, List.setIfInBounds_toArray, List.set_cons_succ, List.set_cons_zero]
        clear f10
        obtain ⟨l, hl⟩ := HOK.out
        have HL := Lib.hid hl
        have HB1 := Lib.hid (below_then HB0.out hb1)
        have HBX1 := Lib.hid (HBOX.out.below hb1 HBOX.out.lt)
        have HZ := Lib.hid HB1.out.size
        clear hb1 hl
        have hnum : Row (W1.alloc (.cells #[.int .i64 0] 3)) W1.heap.size 3 [.int .i64 0] := heap_alloc_new W1 _
        have HE := Lib.hid (neachB_any p s u (.slice A m c) W1.heap.size w.heap.size w (W1.alloc (.cells #[.int .i64 0] 3)) HU.out HV.out (HB1.out.alloc HZ.out _) hnum (HBX1.out.alloc _) HZ.out HC.out HALL.out HPL.out HSL.out l HL.out)
        clear hnum
        go_wp2_with fail
        refine HE.out.mono ?_
        rintro e w3 ⟨v3, rfl, hv3, hb3⟩
        have HV3 := Lib.hid hv3
        have HB3 := Lib.hid hb3
        clear hv3 hb3
        go_wp2
        go_ret2
        rw [njoinE_yes HL.out]
        exact ⟨_, rfl, HV3.out, HB3.out⟩
    · have HQ := Lib.hid (show ((qcount p : Int) != (m : Int)) = false by rw [h1]; simp)
      have HW := Lib.hid (show (qcount (npresent s) == (npresent s).length) = false by rw [HCT.out, npresent_len, beq_eq_false_iff_ne]; exact h2)
      have HE := Lib.hid (njoinE_no (njoin_none (p := p) (s := s) fun h => h2 h.2))
      clear h1 h2
      go_enter Try.func11, Try.ntmps11
      go_wp2_with fail
      refine wp_region_list [.is (u), .is (.int .i64 (qcount p : Int)), .is (.slice A m c), .is (.int .i64 (m : Int)), .is (.bool false), .is (.bool false), .is (.slice A m c), .vals Value.bool (npresent s), .is (.bool false), .is (.bool true), .is (.bool true)] [some 7, some 8, some 9, some 10, some 11, some 12, some 13, some 14, some 15, some 16, some 17] (by kernel_rfl) (by kernel_rfl) (by kernel_rfl) rfl ⟨?_, ?_, ?_, ?_, ?_, ?_, ?_, ?_, ?_, ?_, ?_, trivial⟩ ?_
      · intro ρ W1 hb1 H
        exact gives_move rfl (H.old 0 _ (by kernel_rfl) rfl) ⟨rfl, Below.refl _ _⟩
      · intro ρ W1 hb1 H
        have e0 : ρ (.tmp 7) = u := H.new 7 0 (by kernel_rfl)
        refine gives_call rfl (fun _ _ => by kernel_rfl) (H.func _) (args := #[u]) (by simp [e0]) ?_
        exact (qcount_is p u W1 (HU1.out.below hb1) HPL.out).mono fun _ _ ⟨h, h2⟩ => ⟨_, h, ⟨rfl, by subst h2; exact Below.refl _ _⟩⟩
      · intro ρ W1 hb1 H
        exact gives_load rfl (H.old 3 _ (by kernel_rfl) rfl) Try.underlying22 rfl ((hb1.cell HLB.out).trans HCB.out) ⟨rfl, Below.refl _ _⟩
      · intro ρ W1 hb1 H
        exact gives_len Try.underlying22 rfl (H.new 9 2 (by kernel_rfl)) ⟨rfl, Below.refl _ _⟩
      · intro ρ W1 hb1 H
        exact gives_intne rfl (H.new 8 1 (by kernel_rfl)) (H.new 10 3 (by kernel_rfl)) ⟨congrArg Value.bool HQ.out, Below.refl _ _⟩
      · intro ρ W1 hb1 H
        exact gives_move rfl (H.new 11 4 (by kernel_rfl)) ⟨rfl, Below.refl _ _⟩
      · intro ρ W1 hb1 H d hd
        have hd' : (some 12 : Option Tmp) = some d := hd
        injection hd' with hd'
        subst hd'
        refine ⟨fun _ => ?_, fun hne => absurd (H.new 12 5 (by kernel_rfl)) hne⟩
        exact gives_load rfl (H.old 3 _ (by kernel_rfl) rfl) Try.underlying22 rfl ((hb1.cell HLB.out).trans HCB.out) ⟨rfl, Below.refl _ _⟩
      · intro ρ W1 hb1 H d hd
        have hd' : (some 12 : Option Tmp) = some d := hd
        injection hd' with hd'
        subst hd'
        refine ⟨fun _ => ?_, fun hne => absurd (H.new 12 5 (by kernel_rfl)) hne⟩
        have e0 : ρ (.tmp 13) = .slice A m c := (H.new 13 6 (by kernel_rfl))
        refine gives_call rfl (fun _ _ => by kernel_rfl) (H.func _) (args := #[.slice A m c, .func (.func 19) #[] #[]]) (by simp [e0, H.func]) ?_
        exact (neachV_any s _ W1 (HV1.out.below hb1) HSL.out).mono fun _ _ ⟨x, h1, h2, h3⟩ => ⟨x, h1, h2, h3⟩
      · intro ρ W1 hb1 H d hd
        have hd' : (some 12 : Option Tmp) = some d := hd
        injection hd' with hd'
        subst hd'
        refine ⟨fun _ => ?_, fun hne => absurd (H.new 12 5 (by kernel_rfl)) hne⟩
        have e0 : IsV Value.bool (npresent s) (ρ (.tmp 14)) W1 := (H.new 14 7 (by kernel_rfl))
        refine gives_call rfl (fun _ _ => by kernel_rfl) (H.func _) (args := #[ρ (.tmp 14)]) (by simp) ?_
        exact (nwhole_any _ _ false W1 e0 (by rw [npresent_len]; exact HSL.out) HW.out).mono fun _ _ ⟨h, h2⟩ => ⟨_, h, ⟨rfl, by subst h2; exact Below.refl _ _⟩⟩
      · intro ρ W1 hb1 H d hd
        have hd' : (some 12 : Option Tmp) = some d := hd
        injection hd' with hd'
        subst hd'
        refine ⟨fun _ => ?_, fun hne => absurd (H.new 12 5 (by kernel_rfl)) hne⟩
        exact gives_notN rfl (H.new 15 8 (by kernel_rfl)) ⟨rfl, Below.refl _ _⟩
      · intro ρ W1 hb1 H
        exact gives_pick_f rfl (H.new 12 5 (by kernel_rfl)) (H.new 16 9 (by kernel_rfl)) ⟨rfl, Below.refl _ _⟩
      · intro vs W1 hb1 hfs
        have f10 : vs 10 = .bool true := hfs 10 (by decide)
        clear hfs
        simp only [putAll, Nat.zero_add, Nat.reduceAdd]
        generalize vs 0 = z0
        generalize vs 1 = z1
        generalize vs 2 = z2
        generalize vs 3 = z3
        generalize vs 4 = z4
        generalize vs 5 = z5
        generalize vs 6 = z6
        generalize vs 7 = z7
        generalize vs 8 = z8
        generalize vs 9 = z9
        simp only [f10, Act.put, List.setIfInBounds_toArray, List.set_cons_succ, List.set_cons_zero]
        clear f10
        have HB1 := Lib.hid (below_then HB0.out hb1)
        clear hb1
        go_wp2
        go_ret2
        rw [HE.out]
        exact RetRE.nil _ HB1.out
  · have HQ := Lib.hid (show ((qcount p : Int) != (m : Int)) = true by simpa using fun h => h1 (by omega))
    have HE := Lib.hid (njoinE_no (njoin_none (p := p) (s := s) fun h => h1 (by rw [h.1]; exact HM.out)))
    clear h1
    go_enter Try.func11, Try.ntmps11
    go_wp2_with fail
    refine wp_region_list [.is (u), .is (.int .i64 (qcount p : Int)), .is (.slice A m c), .is (.int .i64 (m : Int)), .is (.bool true), .is (.bool true), .any, .any, .any, .any, .is (.bool true)] [some 7, some 8, some 9, some 10, some 11, some 12, some 13, some 14, some 15, some 16, some 17] (by kernel_rfl) (by kernel_rfl) (by kernel_rfl) rfl ⟨?_, ?_, ?_, ?_, ?_, ?_, ?_, ?_, ?_, ?_, ?_, trivial⟩ ?_
    · intro ρ W1 hb1 H
      exact gives_move rfl (H.old 0 _ (by kernel_rfl) rfl) ⟨rfl, Below.refl _ _⟩
    · intro ρ W1 hb1 H
      have e0 : ρ (.tmp 7) = u := H.new 7 0 (by kernel_rfl)
      refine gives_call rfl (fun _ _ => by kernel_rfl) (H.func _) (args := #[u]) (by simp [e0]) ?_
      exact (qcount_is p u W1 (HU1.out.below hb1) HPL.out).mono fun _ _ ⟨h, h2⟩ => ⟨_, h, ⟨rfl, by subst h2; exact Below.refl _ _⟩⟩
    · intro ρ W1 hb1 H
      exact gives_load rfl (H.old 3 _ (by kernel_rfl) rfl) Try.underlying22 rfl ((hb1.cell HLB.out).trans HCB.out) ⟨rfl, Below.refl _ _⟩
    · intro ρ W1 hb1 H
      exact gives_len Try.underlying22 rfl (H.new 9 2 (by kernel_rfl)) ⟨rfl, Below.refl _ _⟩
    · intro ρ W1 hb1 H
      exact gives_intne rfl (H.new 8 1 (by kernel_rfl)) (H.new 10 3 (by kernel_rfl)) ⟨congrArg Value.bool HQ.out, Below.refl _ _⟩
    · intro ρ W1 hb1 H
      exact gives_move rfl (H.new 11 4 (by kernel_rfl)) ⟨rfl, Below.refl _ _⟩
    · intro ρ W1 hb1 H d hd
      have hd' : (some 12 : Option Tmp) = some d := hd
      injection hd' with hd'
      subst hd'
      exact ⟨(fun hh => by cases hh.symm.trans (H.new 12 5 (by kernel_rfl))), fun _ => trivial⟩
    · intro ρ W1 hb1 H d hd
      have hd' : (some 12 : Option Tmp) = some d := hd
      injection hd' with hd'
      subst hd'
      exact ⟨(fun hh => by cases hh.symm.trans (H.new 12 5 (by kernel_rfl))), fun _ => trivial⟩
    · intro ρ W1 hb1 H d hd
      have hd' : (some 12 : Option Tmp) = some d := hd
      injection hd' with hd'
      subst hd'
      exact ⟨(fun hh => by cases hh.symm.trans (H.new 12 5 (by kernel_rfl))), fun _ => trivial⟩
    · intro ρ W1 hb1 H d hd
      have hd' : (some 12 : Option Tmp) = some d := hd
      injection hd' with hd'
      subst hd'
      exact ⟨(fun hh => by cases hh.symm.trans (H.new 12 5 (by kernel_rfl))), fun _ => trivial⟩
    · intro ρ W1 hb1 H
      exact gives_pick_t rfl (H.new 12 5 (by kernel_rfl)) (H.const _) ⟨rfl, Below.refl _ _⟩
    · intro vs W1 hb1 hfs
      have f10 : vs 10 = .bool true := hfs 10 (by decide)
      clear hfs
      simp only [putAll, Nat.zero_add, Nat.reduceAdd]
      generalize vs 0 = z0
      generalize vs 1 = z1
      generalize vs 2 = z2
      generalize vs 3 = z3
      generalize vs 4 = z4
      generalize vs 5 = z5
      generalize vs 6 = z6
      generalize vs 7 = z7
      generalize vs 8 = z8
      generalize vs 9 = z9
      simp only [f10, Act.put, List.setIfInBounds_toArray, List.set_cons_succ, List.set_cons_zero]
      clear f10
      have HB1 := Lib.hid (below_then HB0.out hb1)
      clear hb1
      go_wp2
      go_ret2
      rw [HE.out]
      exact RetRE.nil _ HB1.out
end Go.Proofs.Ytffglnccpbbclaa
