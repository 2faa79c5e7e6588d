
/- Contracts of layer 8's reference: Put, Take. -/

import Derived.Test.YtiapopaggpnceaaDoorDRef

import Derived.Test.YtiapopaggpnceaaDoorBRPack

import Derived.Test.YtiapopaggpnceaaDoorBRUnp

import Derived.Test.YtiapopaggpnceaaDoorWLeaf

namespace Go.Proofs.YtiapopaggpnceaaDoor

open Go.RowKit

theorem rmost_is {l : List Nat} {v : Value} {w : World} (h : IsV uv l v w) (hb : l.length ≤ 1000000) (h64 : ∀ x ∈ l, x < 2 ^ 64) : Calls Tryd.prog 36 #[v] w fun e w' => e = .returned (.int .i64 (wmost l : Int)) ∧ w = w' := by
  obtain ⟨A, c, rfl, h2, h3, h4, h5⟩ := h
  exact rmost_any A _ c l w h2 rfl h3 hb h5 h64
theorem dputE_no {l : List Int} {s : Bool} (h : dplain l s = none) : dputE l s = ([], 1) := by unfold dputE; rw [h]
theorem dputE_len {l : List Int} {s : Bool} (h : l.length < 1 ∨ 512 < l.length) : dputE l s = ([], 1) := by
  unfold dputE
  cases dplain l s with
  | none => rfl
  | some u => dsimp only; rw [if_pos h]
theorem dputE_ok {l : List Int} {s : Bool} {u : List Nat} (h : dplain l s = some u) (h1 : 1 ≤ l.length) (h2 : l.length ≤ 512) : dputE l s = (dlay u, 0) := by
  unfold dputE
  rw [h]
  dsimp only
  rw [if_neg (by omega)]
theorem dpacks {u : List Nat} (h : ∀ x ∈ u, x < 2 ^ 64) : packsAny u (dwide u : Int) = (bpack u (dwide u), 0) := by
  obtain ⟨_, h2, h3⟩ := dwide_room h
  rw [packsAny_in _ _ h2, packs_ok h3]
theorem bsize_small {n W : Nat} (hn : n ≤ 512) (hW : W ≤ 64) : bsize n W ≤ 4096 := by
  unfold bsize
  have : n * W ≤ 512 * 64 := Nat.mul_le_mul hn hW
  omega
set_option maxHeartbeats 2000000 in
set_option maxRecDepth 100000 in
theorem rput8_any (l : List Int) (v : Value) (s : Bool) (w : World) (hv : IsV iv l v w) (hl : ∀ x ∈ l, inInt x) (hb : l.length ≤ 1000000) :
    Calls Tryd.prog 21 #[v, .bool s] w (RetE w (dputE l s)) := by
  have HP := Lib.hid (rplain8_any l v s w hv hl hb)
  obtain ⟨A, c, rfl, hA, hnc, hcm, hlw⟩ := hv
  obtain ⟨n, hn⟩ : ∃ n, n = l.length := ⟨_, rfl⟩
  rw [← hn] at hA hnc hb HP ⊢
  cases hd : dplain l s with
  | none =>
    have hE := Lib.hid (dputE_no hd)
    have hpe : dplainE l s = ([], 1) := by unfold dplainE; rw [hd]
    rw [hpe] at HP
    clear hn hlw hcm hA hd hpe
    go_enter Tryd.func21, Tryd.ntmps21
    go_wp2_with fail
    refine HP.out.mono ?_
    rintro e w1 ⟨u, rfl, hu, hb1⟩
    obtain ⟨A1, c1, rfl, _⟩ := hu
    go_wp2
    go_ret2
    rw [hE.out]
    exact RetE.nil _ hb1
  | some us =>
    have hpe : dplainE l s = (us, 0) := by unfold dplainE; rw [hd]
    rw [hpe] at HP
    have H64 := Lib.hid (dplain_lt hl hd)
    have hul := dplain_len hd
    rw [← hn] at hul
    by_cases hlen : n < 1 ∨ 512 < n
    · have hE := Lib.hid (dputE_len (l := l) (s := s) (by omega))
      clear hn hlw hcm hA hd hpe hul
      go_enter Tryd.func21, Tryd.ntmps21
      go_wp2_with fail
      refine HP.out.mono ?_
      rintro e w1 ⟨u, rfl, hu, hb1⟩
      obtain ⟨A1, c1, rfl, _⟩ := hu
      rcases hlen with h1 | h2
      · have d1 : decide ((n : Int) < 1) = true := decide_eq_true (by omega)
        go_wp2
        go_ret2
        rw [hE.out]
        exact RetE.nil _ hb1
      · have d1 : decide ((n : Int) < 1) = false := decide_eq_false (by omega)
        have d2 : decide ((512 : Int) < (n : Int)) = true := decide_eq_true (by omega)
        go_wp2
        go_ret2
        rw [hE.out]
        exact RetE.nil _ hb1
    · have hE := Lib.hid (dputE_ok hd (by omega) (by omega))
      have d1 : decide ((n : Int) < 1) = false := decide_eq_false (by omega)
      have d2 : decide ((512 : Int) < (n : Int)) = false := decide_eq_false (by omega)
      have hus : us.length ≤ 512 := by omega
      have hus1 : 1 ≤ us.length := by omega
      have HUL := Lib.hid hul
      obtain ⟨W, hW⟩ : ∃ W, W = dwide us := ⟨_, rfl⟩
      obtain ⟨C, hC⟩ : ∃ C, C = dcode us := ⟨_, rfl⟩
      have HW := Lib.hid hW
      have HC := Lib.hid hC
      have HCL := Lib.hid (fun X => rclosest_any (wmost us : Int) X)
      rw [dwide_int, ← hW] at HCL
      have HPK := Lib.hid (fun (u : Value) (X : World) (h : IsV uv us u X) => rpack_is (W : Int) (isU_iff.2 h) (by omega) H64.out)
      rw [hW, dpacks H64.out, ← hW] at HPK
      obtain ⟨hci, hc31, _⟩ := dcode_int H64.out
      have HCD := Lib.hid (fun X => rcode_any (W : Int) X)
      rw [hW, hci, ← hC, ← hW] at HCD
      have HHD := Lib.hid (fun X => rhead8_any 1 (C : Int) (n : Int) X)
      rw [show (1 : Int) = ((1 : Nat) : Int) from rfl, dhead_in (by omega) (by rw [hC]; exact hc31) (by omega) (by omega), show ((1 : Nat) : Int) = (1 : Int) from rfl] at HHD
      have hsz : (bpack us W).length ≤ 4096 := by rw [bpack_len]; exact bsize_small hus (by rw [hW]; exact (dwide_room H64.out).2.1)
      clear hn hlw hcm hA hd hpe hul hW hC hci hc31 hlen
      go_enter Tryd.func21, Tryd.ntmps21
      go_wp2_with fail
      refine HP.out.mono ?_
      rintro e w1 ⟨u, rfl, hu, hb1⟩
      obtain ⟨A1, c1, rfl, hr⟩ := hu
      have hu : IsV uv us (.slice A1 us.length c1) w1 := ⟨A1, c1, rfl, hr⟩
      have HB1 := Lib.hid hb1
      have HM := Lib.hid (rmost_is hu (by omega) H64.out)
      have HPK1 := Lib.hid (HPK.out _ w1 hu)
      clear hb1 hr hu
      go_wp2_with fail
      refine HM.out.mono ?_
      rintro e w' ⟨rfl, rfl⟩
      go_wp2_with fail
      refine (HCL.out _).mono ?_
      rintro e w' ⟨rfl, rfl⟩
      go_wp2_with fail
      refine HPK1.out.mono ?_
      rintro e w2 ⟨pk, rfl, hpk, hb2⟩
      obtain ⟨A2, c2, rfl, hA2, hn2, hm2, hl2⟩ := hpk
      have HB2 := Lib.hid (below_then HB1.out hb2)
      clear hb2
      go_wp2_with fail
      refine (HCD.out _).mono ?_
      rintro e w' ⟨rfl, rfl⟩
      go_wp2_with fail
      refine (HHD.out _).mono ?_
      rintro e w3 ⟨hv3, rfl, hh, hb3⟩
      rw [dheadN_len] at hh
      have hz3 := hb3.size
      have hl3 := hl2.below hb3
      have HB3 := Lib.hid (below_then HB2.out hb3)
      obtain ⟨pl, hpl⟩ : ∃ pl, pl = (bpack us W).length := ⟨_, rfl⟩
      have hpm : ((bpack us W).map bv).length = pl := by rw [List.length_map, hpl]
      have HPM := Lib.hid hpm
      rw [← hpl] at hsz hA2 hn2 ⊢
      have HPL := Lib.hid hpl
      obtain ⟨xs, hxs⟩ : ∃ xs, xs = (dheadN 1 C n).map bv := ⟨_, rfl⟩
      rw [← hxs] at hh
      have HXS := Lib.hid hxs
      clear hpm hpl hxs
      go_wp2_with (at_builtin; refine wpList_join elemB rfl _ _ rfl w2.heap.size _ _ _ _ _ _ ((bpack us W).map bv) w2 rfl rfl hA2 HPM.out hl3 (bv_one _) hh hb3 hz3 (by omega) (by omega) ?_)
      intro v4 w4 hown4 hb4 _ _
      have HO := Lib.hid (show IsB (dlay us) v4 w4 by
        have e1 : dlay us = dheadN 1 C n ++ bpack us W := by unfold dlay; rw [HUL.out, ← HC.out, ← HW.out]
        rw [e1]
        refine isB_own (n := 2 + pl) (base := w2.heap.size) (e := 5) ?_
        rw [List.map_append, ← HXS.out]
        exact hown4)
      have HB4 := Lib.hid (below_then HB2.out hb4)
      clear hown4 hb4 hh hb3 hz3 hl3
      go_wp2
      go_ret2
      rw [hE.out]
      exact ⟨_, rfl, HO.out, HB4.out⟩
theorem dtakeE_no {l : List UInt8} {s : Bool} (h : (dlook l).2.2.2.2 ≠ 0 ∨ (dlook l).1 ≠ 1) : dtakeE l s = ([], [], 2) := by unfold dtakeE; rw [if_pos h]
theorem dtakeE_cut {l : List UInt8} {c m : Int} {r : List UInt8} {s : Bool} (h : dlook l = (1, c, m, r, 0)) {u : List Nat} {q : List UInt8} {x : Int} (hu : unpacksAny r m (wof c) = (u, q, x)) (hx : x ≠ 0) : dtakeE l s = ([], [], 2) := by
  unfold dtakeE
  rw [h]
  dsimp only
  rw [if_neg (by decide), hu]
  dsimp only
  rw [if_pos hx]
theorem dtakeE_bad {l : List UInt8} {c m : Int} {r : List UInt8} {s : Bool} (h : dlook l = (1, c, m, r, 0)) {u : List Nat} {q : List UInt8} (hu : unpacksAny r m (wof c) = (u, q, 0)) (hm : dmade u s = none) : dtakeE l s = ([], [], 2) := by
  unfold dtakeE
  rw [h]
  dsimp only
  rw [if_neg (by decide), hu]
  dsimp only
  rw [if_neg (by decide), hm]
/-- Numbers, bytes and an error that a call answers. -/
def RetIB (w : World) (p : List Int × List UInt8 × Int) (e : Ending) (w' : World) : Prop := ∃ u v, e = .returned (.tuple #[u, v, .int .i64 p.2.2]) ∧ IsV iv p.1 u w' ∧ IsB p.2.1 v w' ∧ Below w.heap.size w w'
theorem RetIB.nil {w w' : World} (n : Int) (hb : Below w.heap.size w w') : RetIB w ([], [], n) (.returned (.tuple #[.slice none 0 0, .slice none 0 0, .int .i64 n])) w' := ⟨_, _, rfl, isV_nil _ _, isB_nil _, hb⟩
/-- The same, the bytes in a row of the call's own. -/
def RetIO (w : World) (p : List Int × List UInt8 × Int) (e : Ending) (w' : World) : Prop := ∃ u v, e = .returned (.tuple #[u, v, .int .i64 p.2.2]) ∧ IsV iv p.1 u w' ∧ OwnB w p.2.1 v w' ∧ Below w.heap.size w w'
theorem RetIO.nil {w w' : World} (n : Int) (hb : Below w.heap.size w w') : RetIO w ([], [], n) (.returned (.tuple #[.slice none 0 0, .slice none 0 0, .int .i64 n])) w' := ⟨_, _, rfl, isV_nil _ _, OwnB.nil _ _, hb⟩
theorem RetIO.ib {w w' : World} {p : List Int × List UInt8 × Int} {e : Ending} (h : RetIO w p e w') : RetIB w p e w' := by
  obtain ⟨u, v, h1, h2, h3, h4⟩ := h
  exact ⟨u, v, h1, h2, h3.isB, h4⟩
theorem dlook_bd (l : List UInt8) : 0 ≤ (dlook l).1 ∧ (dlook l).1 ≤ 65536 ∧ 0 ≤ (dlook l).2.1 ∧ (dlook l).2.1 ≤ 31 ∧ 0 ≤ (dlook l).2.2.1 ∧ (dlook l).2.2.1 ≤ 512 ∧ (dlook l).2.2.2.1.length ≤ l.length := by
  unfold dlook
  split
  · simp
  · rename_i h
    have h1 := (bval_two (l := l) (by omega)).2
    dsimp only
    rw [List.length_drop]
    omega
theorem unpacks_lt {l : List UInt8} {M W : Nat} (hW : W ≤ 64) : ∀ x ∈ (unpacks l M W).1, x < 2 ^ 64 := by
  intro x hx
  unfold unpacks at hx
  split at hx
  · simp at hx
  · split at hx
    · exact Nat.lt_of_lt_of_le (bnums_lt x hx) (Nat.pow_le_pow_right (by omega) hW)
    · simp at hx
theorem unpacks_many {l : List UInt8} {M W : Nat} : (unpacks l M W).1.length ≤ M := by
  unfold unpacks
  split
  · simp
  · split
    · rw [bnums_len]; exact Nat.le_refl _
    · simp
theorem unpacksAny_lt {l : List UInt8} {M W : Int} : (∀ x ∈ (unpacksAny l M W).1, x < 2 ^ 64) ∧ (unpacksAny l M W).1.length ≤ 4096 := by
  unfold unpacksAny
  split
  · exact ⟨unpacks_lt (by omega), Nat.le_trans unpacks_many (by omega)⟩
  · simp
set_option maxHeartbeats 2000000 in
set_option maxRecDepth 100000 in
theorem rtake8_own (l : List UInt8) (v : Value) (s : Bool) (w : World) (hv : IsB l v w) (hb : l.length ≤ 1000000) :
    Calls Tryd.prog 23 #[v, .bool s] w (RetIO w (dtakeE l s)) := by
  have HLK := Lib.hid (rlook8_any l v w hv hb)
  obtain ⟨A, c, rfl, _⟩ := hv
  have hbd := dlook_bd l
  obtain ⟨K, C, M, r, x, hd⟩ : ∃ K C M r x, dlook l = (K, C, M, r, x) := ⟨_, _, _, _, _, rfl⟩
  rw [hd] at HLK hbd
  dsimp only at hbd
  obtain ⟨hK0, hK1, hC0, hC1, hM0, hM1, hr⟩ := hbd
  by_cases hx : x = 0
  · subst hx
    by_cases hK : K = 1
    · subst hK
      have HD := Lib.hid hd
      obtain ⟨us, q, y, hu⟩ : ∃ us q y, unpacksAny r M (wof C) = (us, q, y) := ⟨_, _, _, rfl⟩
      have hlt := (unpacksAny_lt (l := r) (M := M) (W := wof C)).1
      have hmany := (unpacksAny_lt (l := r) (M := M) (W := wof C)).2
      rw [hu] at hlt hmany
      dsimp only at hlt hmany
      have HU := Lib.hid hu
      have HLT := Lib.hid hlt
      have HOF := Lib.hid (fun X => rof_any C X (by omega) (by omega))
      obtain ⟨W, hW⟩ : ∃ W, W = wof C := ⟨_, rfl⟩
      rw [← hW] at HOF HU
      have HUN := Lib.hid (fun (u : Value) (X : World) (h : IsB r u X) => runpack_isO M W h (by omega))
      rw [HU.out] at HUN
      have HWW := Lib.hid hW
      clear hd hu hlt hW
      by_cases hy : y = 0
      · subst hy
        have HMD := Lib.hid (fun (u : Value) (X : World) (h : IsV uv us u X) => rmade8_any us u s X h HLT.out (by omega))
        cases hm : dmade us s with
        | none =>
          have hpe : dmadeE us s = ([], 2) := by unfold dmadeE; rw [hm]
          rw [hpe] at HMD
          have hE := Lib.hid (dtakeE_bad (s := s) HD.out (by rw [← HWW.out]; exact HU.out) hm)
          clear hm hpe
          go_enter Tryd.func23, Tryd.ntmps23
          go_wp2_with fail
          refine HLK.out.mono ?_
          rintro e w1 ⟨rv, rfl, hrv, hb1⟩
          have HB1 := Lib.hid hb1
          have HRV := Lib.hid hrv
          clear hb1 hrv
          go_wp2_with fail
          refine (HOF.out _).mono ?_
          rintro e w' ⟨rfl, rfl⟩
          go_wp2_with fail
          refine (HUN.out _ _ HRV.out).mono ?_
          rintro e w2 ⟨u2, q2, rfl, hu2, hq2, hb2⟩
          have HB2 := Lib.hid (below_then HB1.out hb2)
          have HI := Lib.hid (isV_own (f := uv) hu2)
          have HQ := Lib.hid (OwnB.base HB1.out.size hq2)
          clear hb2 hu2 hq2
          go_wp2_with fail
          refine (HMD.out _ _ HI.out).mono ?_
          rintro e w3 ⟨m, rfl, hm3, hb3⟩
          obtain ⟨A3, c3, rfl, _⟩ := hm3
          go_wp2
          go_ret3
          rw [hE.out]
          exact RetIO.nil _ (below_then HB2.out hb3)
        | some m =>
          have hpe : dmadeE us s = (m, 0) := by unfold dmadeE; rw [hm]
          rw [hpe] at HMD
          have hE := Lib.hid (dtakeE_ok (s := s) HD.out (by rw [← HWW.out]; exact HU.out) hm)
          clear hm hpe
          go_enter Tryd.func23, Tryd.ntmps23
          go_wp2_with fail
          refine HLK.out.mono ?_
          rintro e w1 ⟨rv, rfl, hrv, hb1⟩
          have HB1 := Lib.hid hb1
          have HRV := Lib.hid hrv
          clear hb1 hrv
          go_wp2_with fail
          refine (HOF.out _).mono ?_
          rintro e w' ⟨rfl, rfl⟩
          go_wp2_with fail
          refine (HUN.out _ _ HRV.out).mono ?_
          rintro e w2 ⟨u2, q2, rfl, hu2, hq2, hb2⟩
          have HB2 := Lib.hid (below_then HB1.out hb2)
          have HI := Lib.hid (isV_own (f := uv) hu2)
          have HQ := Lib.hid (OwnB.base HB1.out.size hq2)
          clear hb2 hu2 hq2
          go_wp2_with fail
          refine (HMD.out _ _ HI.out).mono ?_
          rintro e w3 ⟨m3, rfl, hm3, hb3⟩
          have HQ3 := Lib.hid (HQ.out.below hb3)
          have HM3 := Lib.hid hm3
          have HB3 := Lib.hid (below_then HB2.out hb3)
          clear hm3 hb3
          go_wp2
          go_ret3
          rw [hE.out]
          exact ⟨_, _, rfl, HM3.out, HQ3.out, HB3.out⟩
      · have hE := Lib.hid (dtakeE_cut (s := s) HD.out (by rw [← HWW.out]; exact HU.out) hy)
        have d2 : (y != 0) = true := by simpa using hy
        go_enter Tryd.func23, Tryd.ntmps23
        go_wp2_with fail
        refine HLK.out.mono ?_
        rintro e w1 ⟨rv, rfl, hrv, hb1⟩
        have HB1 := Lib.hid hb1
        have HRV := Lib.hid hrv
        clear hb1 hrv
        go_wp2_with fail
        refine (HOF.out _).mono ?_
        rintro e w' ⟨rfl, rfl⟩
        go_wp2_with fail
        refine (HUN.out _ _ HRV.out).mono ?_
        rintro e w2 ⟨u2, q2, rfl, hu2, hq2, hb2⟩
        have HB2 := Lib.hid (below_then HB1.out hb2)
        have HI := Lib.hid (isV_own (f := uv) hu2)
        have HQ := Lib.hid (OwnB.base HB1.out.size hq2)
        clear hb2 hu2 hq2
        go_wp2
        go_ret3
        rw [hE.out]
        exact RetIO.nil _ HB2.out
    · have hE := Lib.hid (dtakeE_no (l := l) (s := s) (.inr (by rw [hd]; exact hK)))
      have d1 : (K != 1) = true := by simpa using hK
      clear hd
      go_enter Tryd.func23, Tryd.ntmps23
      go_wp2_with fail
      refine HLK.out.mono ?_
      rintro e w1 ⟨rv, rfl, hrv, hb1⟩
      go_wp2
      go_ret3
      rw [hE.out]
      exact RetIO.nil _ hb1
  · have hE := Lib.hid (dtakeE_no (l := l) (s := s) (.inl (by rw [hd]; exact hx)))
    have d1 : (x != 0) = true := by simpa using hx
    clear hd
    go_enter Tryd.func23, Tryd.ntmps23
    go_wp2_with fail
    refine HLK.out.mono ?_
    rintro e w1 ⟨rv, rfl, hrv, hb1⟩
    go_wp2
    go_ret3
    rw [hE.out]
    exact RetIO.nil _ hb1
theorem rtake8_any (l : List UInt8) (v : Value) (s : Bool) (w : World) (hv : IsB l v w) (hb : l.length ≤ 1000000) :
    Calls Tryd.prog 23 #[v, .bool s] w (RetIB w (dtakeE l s)) := (rtake8_own l v s w hv hb).mono fun _ _ h => h.ib
end Go.Proofs.YtiapopaggpnceaaDoor
