
/- The statement DeltaBack: for any number, any steps, either way, the law answers true. No condition. -/

import Derived.Test.YtchgpgnipmmflaaDoorG3
namespace Go.Proofs.YtchgpgnipmmflaaDoor

open Go.RowKit Go.ChangeShapes Go.WideShapes Go.ChangeAt

/-- Numbers from x on, by these differences. -/
def drun (x : Int) (ds : List Int) : List Int := (List.range (ds.length + 1)).map fun i => x + (ds.take i).sum
theorem drun_len (x : Int) (ds : List Int) : (drun x ds).length = ds.length + 1 := by simp [drun]
theorem drun_snoc (x : Int) (ds : List Int) (d : Int) : drun x (ds ++ [d]) = drun x ds ++ [x + ds.sum + d] := by
  unfold drun
  rw [List.length_append, List.length_singleton, List.range_succ (n := ds.length + 1), List.map_append, List.map_singleton]
  congr 1
  · refine List.map_congr_left fun i hi => ?_
    rw [List.mem_range] at hi
    rw [List.take_append_of_le_length (by omega)]
  · rw [List.take_of_length_le (by simp), List.sum_append]
    simp [Int.add_assoc]
theorem drun_get (x : Int) (ds : List Int) {i : Nat} (h : i < (drun x ds).length) : (drun x ds)[i] = x + (ds.take i).sum := by simp [drun]
theorem drun_getD (x : Int) (ds : List Int) {i : Nat} (h : i ≤ ds.length) : (drun x ds).getD i 0 = x + (ds.take i).sum := by
  rw [List.getD_eq_getElem?_getD, List.getElem?_eq_getElem (by rw [drun_len]; omega), Option.getD_some, drun_get]
theorem dsum_bd : ∀ (ds : List Int), (∀ d ∈ ds, -1125899906842623 ≤ d ∧ d ≤ 1125899906842623) → -(1125899906842623 * (ds.length : Int)) ≤ ds.sum ∧ ds.sum ≤ 1125899906842623 * (ds.length : Int)
  | [], _ => by simp
  | d :: ds, h => by
    have h1 := dsum_bd ds fun x hx => h x (List.mem_cons_of_mem _ hx)
    have h2 := h d List.mem_cons_self
    rw [List.sum_cons, List.length_cons]
    omega
theorem dsum_neg : ∀ (ds : List Int), (∀ d ∈ ds, d ≤ 0) → ds.sum ≤ 0 ∧ ((∃ d ∈ ds, d < 0) → ds.sum < 0)
  | [], _ => ⟨by simp, fun ⟨_, h, _⟩ => by cases h⟩
  | d :: ds, h => by
    have h1 := dsum_neg ds fun x hx => h x (List.mem_cons_of_mem _ hx)
    have h2 := h d List.mem_cons_self
    rw [List.sum_cons]
    refine ⟨by omega, fun ⟨y, hy, hy0⟩ => ?_⟩
    rcases List.mem_cons.1 hy with rfl | hy
    · omega
    · have := h1.2 ⟨y, hy, hy0⟩; omega
/-- A step, as the law takes it. -/
def dstepOf (f : Bool) (z : Int) : Int := if f = true then -(z % 1125899906842624) else z % 1125899906842624
theorem dstepOf_bd (f : Bool) (z : Int) : (-1125899906842623 ≤ dstepOf f z ∧ dstepOf f z ≤ 1125899906842623) ∧ (f = true → dstepOf f z ≤ 0) ∧ (f = false → 0 ≤ dstepOf f z) := by
  unfold dstepOf
  cases f <;> simp <;> omega
def dstepsOf (f : Bool) (zs : List Int) (k : Nat) : List Int := (zs.take k).map (dstepOf f)
theorem dstepsOf_len (f : Bool) (zs : List Int) {k : Nat} (h : k ≤ zs.length) : (dstepsOf f zs k).length = k := by rw [dstepsOf, List.length_map, List.length_take]; omega
theorem dstepsOf_succ (f : Bool) (zs : List Int) {k : Nat} (h : k < zs.length) : dstepsOf f zs (k + 1) = dstepsOf f zs k ++ [dstepOf f zs[k]] := by
  rw [dstepsOf, List.take_succ_eq_append_getElem h, List.map_append]; rfl
theorem dstepsOf_bd (f : Bool) (zs : List Int) (k : Nat) : ∀ d ∈ dstepsOf f zs k, (-1125899906842623 ≤ d ∧ d ≤ 1125899906842623) ∧ (f = true → d ≤ 0) ∧ (f = false → 0 ≤ d) := by
  intro d hd
  obtain ⟨z, _, rfl⟩ := List.mem_map.1 hd
  exact dstepOf_bd f z
theorem drun_bd {x : Int} {ds : List Int} (hx : -600000000000000000 ≤ x ∧ x ≤ 600000000000000000) (hl : ds.length ≤ 511) (hd : ∀ d ∈ ds, -1125899906842623 ≤ d ∧ d ≤ 1125899906842623) : ∀ y ∈ drun x ds, -2000000000000000000 ≤ y ∧ y ≤ 2000000000000000000 := by
  intro y hy
  obtain ⟨i, hi, rfl⟩ := List.mem_map.1 hy
  have h1 := dsum_bd (ds.take i) fun d h => hd d (List.mem_of_mem_take h)
  have h2 : (ds.take i).length ≤ 511 := by rw [List.length_take]; omega
  omega
theorem gone_add {f : Bool} {a d : Int} (hd : -1125899906842623 ≤ d ∧ d ≤ 1125899906842623) (h : d = 0 ∨ decide (d < 0) = f) : ∃ u, gone f a (a + d) = some u := by
  rcases gdiff_cases a (a + d) with ⟨_, k⟩ | ⟨k1, k2, k⟩ | ⟨k1, k2, k⟩
  · omega
  · refine ⟨_, gone_yes (by rw [k]) (.inr ?_)⟩
    rw [k]
    rcases h with h | h
    · omega
    · rw [← h]; exact (decide_eq_true (by omega)).symm
  · by_cases h0 : d = 0
    · exact ⟨_, gone_yes (by rw [k]) (.inl (by rw [k]; dsimp only; omega))⟩
    · refine ⟨_, gone_yes (by rw [k]) (.inr ?_)⟩
      rw [k]
      rcases h with h | h
      · exact absurd h h0
      · rw [← h]; exact (decide_eq_false (by omega)).symm
theorem gone_other {f : Bool} {a d : Int} (hd : -1125899906842623 ≤ d ∧ d ≤ 1125899906842623) (h0 : d ≠ 0) (h : decide (d < 0) ≠ f) : gone f a (a + d) = none := by
  refine gone_not fun ⟨_, h2⟩ => ?_
  rcases gdiff_cases a (a + d) with ⟨_, k⟩ | ⟨k1, k2, k⟩ | ⟨k1, k2, k⟩
  · omega
  · rw [k] at h2
    dsimp only at h2
    rcases h2 with h2 | h2
    · omega
    · exact h (by rw [← h2]; exact decide_eq_true (by omega))
  · rw [k] at h2
    dsimp only at h2
    rcases h2 with h2 | h2
    · omega
    · exact h (by rw [← h2]; exact decide_eq_false (by omega))
theorem omap_all {α β : Type} {g : α → Option β} : ∀ {l : List α}, (∀ x ∈ l, ∃ y, g x = some y) → ∃ ys, omap g l = some ys
  | [], _ => ⟨[], rfl⟩
  | x :: l, h => by
    obtain ⟨y, hy⟩ := h x List.mem_cons_self
    obtain ⟨ys, hys⟩ := omap_all (l := l) fun z hz => h z (List.mem_cons_of_mem _ hz)
    exact ⟨y :: ys, by rw [omap, hy, hys]⟩
theorem gat_drun (x : Int) (ds : List Int) (f : Bool) {i : Nat} (h : i < ds.length) : gat (drun x ds) f i = gone f (x + (ds.take i).sum) (x + (ds.take i).sum + ds[i]) := by
  unfold gat
  rw [drun_getD x ds (by omega), drun_getD x ds (by omega), List.take_succ_eq_append_getElem h, List.sum_append]
  simp [Int.add_assoc]
/-- What Put makes of such numbers. -/
theorem back_put {x : Int} {f : Bool} {ds : List Int} (h1 : 1 ≤ ds.length) (hd : ∀ d ∈ ds, (-1125899906842623 ≤ d ∧ d ≤ 1125899906842623) ∧ (f = true → d ≤ 0) ∧ (f = false → 0 ≤ d)) :
    (∃ us, gsizes (drun x ds) (gfalls (drun x ds)) ((drun x ds).length - 1) = some us) ∨ (gputE (drun x ds) true = ([], 1) ∧ f = true ∧ (ds.take 1).sum = 0 ∧ ds.sum < 0) := by
  obtain ⟨d0, dt, rfl⟩ : ∃ d0 dt, ds = d0 :: dt := by cases ds with | nil => simp at h1 | cons a t => exact ⟨a, t, rfl⟩
  have hf : gfalls (drun x (d0 :: dt)) = decide (d0 < 0) := by
    unfold gfalls
    rw [drun_getD x _ (by simp), drun_getD x _ (by simp)]
    simp
    omega
  rw [hf, drun_len, Nat.add_sub_cancel]
  by_cases hall : ∀ d ∈ d0 :: dt, d = 0 ∨ decide (d < 0) = decide (d0 < 0)
  · refine .inl (omap_all fun i hi => ?_)
    have hi' := List.mem_range.1 hi
    rw [gat_drun x _ _ hi']
    exact gone_add (hd _ (List.getElem_mem hi')).1 (hall _ (List.getElem_mem hi'))
  · obtain ⟨d, hdm, hd0, hdn⟩ : ∃ d ∈ d0 :: dt, d ≠ 0 ∧ decide (d < 0) ≠ decide (d0 < 0) := by
      apply Classical.byContradiction
      intro h
      exact hall fun d hdm => by
        by_cases h2 : d = 0
        · exact .inl h2
        · exact .inr (Classical.byContradiction fun h3 => h ⟨d, hdm, h2, h3⟩)
    have hh := (hd d hdm).2
    have hh0 := (hd d0 List.mem_cons_self).2
    have hft : f = true := by
      cases f with
      | true => rfl
      | false =>
        have e1 := hh.2 rfl
        have e2 := hh0.2 rfl
        exact absurd (by rw [decide_eq_false (by omega), decide_eq_false (by omega)]) hdn
    subst hft
    have e1 := hh.1 rfl
    have e2 := hh0.1 rfl
    have e3 : d0 = 0 := by
      by_cases h3 : d0 < 0
      · exact absurd (by rw [decide_eq_true h3, decide_eq_true (show d < 0 by omega)]) hdn
      · omega
    refine .inr ⟨gputE_none ?_, rfl, by simp [e3], (dsum_neg _ fun y hy => (hd y hy).2.1 rfl).2 ⟨d, hdm, by omega⟩⟩
    rw [hf, drun_len, Nat.add_sub_cancel]
    obtain ⟨i, hi, rfl⟩ := List.getElem_of_mem hdm
    refine gsizes_none hi ?_
    rw [gat_drun x _ _ hi]
    exact gone_other (hd _ hdm).1 hd0 hdn
theorem i64_and50 (n : Int) : bits .and .i64 n 1125899906842623 = n % 1125899906842624 := by
  have hm : (BitVec.ofInt 64 1125899906842623).toNat = 2 ^ 50 - 1 := by decide
  have key : (BitVec.ofInt 64 n &&& BitVec.ofInt 64 1125899906842623).toNat = (n % ((2 ^ 64 : Nat) : Int)).toNat % 2 ^ 50 := by
    rw [BitVec.toNat_and, BitVec.toNat_ofInt, hm, Nat.and_two_pow_sub_one_eq_mod]
  show IntKind.i64.wrap ((BitVec.ofInt 64 n &&& BitVec.ofInt 64 1125899906842623).toNat : Nat) = n % 1125899906842624
  rw [key, IntKind.wrap_i64]
  omega
theorem add_row (g k : Nat) : (⟨g, 0, none⟩ : Addr).add k = ⟨g, k, none⟩ := by unfold Addr.add; split <;> simp_all
def BackRel9 (x : Int) (f : Bool) (zs : List Int) (w : World) (v i : Value) (wr : World) : Prop :=
  ∃ k : Nat, k ≤ zs.length ∧ k ≤ 511 ∧ i = .int .i64 (k : Int) ∧ wr.ownsRow w.heap.size 3 1 v (k + 1) ((drun x (dstepsOf f zs k)).map iv) ∧ Below w.heap.size w wr
theorem gput_plain {own : List Int} {us : List Nat} (h2 : 2 ≤ own.length) (h5 : own.length ≤ 512) (h : gsizes own (gfalls own) (own.length - 1) = some us) : gputE own true = (glay own true us, 0) := by
  refine gputE_some ?_ h2 h5 h
  have hd : ∃ u, dplain own true = some u := omap_all fun y _ => ⟨_, if_pos rfl⟩
  obtain ⟨u, hu⟩ := hd
  rw [hu]
  exact fun h => nomatch h
theorem glay_len {own : List Int} {us : List Nat} (hx : ∀ y ∈ own, inInt y) (h5 : own.length ≤ 512) (h : gsizes own (gfalls own) (own.length - 1) = some us) : (glay own true us).length ≤ 9000 := by
  have h64 := gsizes_64 h
  have hl := gsizes_len h
  have h64t : ∀ u ∈ us.tail, u < 2 ^ 64 := fun u hu => h64 u (List.mem_of_mem_tail hu)
  have ht : (gtail us).length ≤ 4096 := by
    unfold gtail
    split
    · simp
    · rw [bpack_len]
      exact bsize_small (by rw [List.length_tail]; omega) (gwide_int h64t).2.2.2.2.1
  have h0 : vint (own.headD 0) true < 18446744073709551616 := vint_64 (by
    cases own with
    | nil => exact ⟨by decide, by decide⟩
    | cons a t => exact hx a List.mem_cons_self)
  have h1 : vint (gfirst own us) true < 18446744073709551616 := vint_64 (by
    have hu : ((us.headD 0 : Nat) : Int) < 9223372036854775808 := by
      cases us with
      | nil => simp
      | cons a t => exact gsizes_lt h a List.mem_cons_self
    unfold gfirst inInt
    split <;> omega)
  have e0 := vput_len_10 h0
  have e1 := vput_len_10 h1
  unfold glay
  rw [List.length_append, List.length_append, List.length_append, dheadN_len]
  omega
set_option maxHeartbeats 4000000 in
set_option maxRecDepth 100000 in
theorem DeltaBack_walk (w : World) (ht : WTab w) (x : Int) (hx0 : -9223372036854775808 ≤ x) (hx1 : x ≤ 9223372036854775807) (v0 : Value) (l0 : List Int) (hI0 : IsV iv l0 v0 w) (_hy0 : ∀ x ∈ l0, inInt x) (f : Bool) :
    Calls Tryd.prog 6 #[.int .i64 x, v0, .bool f] w fun e w' => e = .returned (.bool true) ∧ Below w.heap.size w w' := by
  have HT := Lib.hid ht
  have HL := Lib.hid hI0
  obtain ⟨X0, hX⟩ : ∃ X0, X0 = x / 16 := ⟨_, rfl⟩
  have HX0E := Lib.hid hX
  have HX0B : Hid (-600000000000000000 ≤ X0 ∧ X0 ≤ 600000000000000000) := Lib.hid (by omega)
  clear ht hI0 hX hx0 hx1
  go_enter Tryd.func6, Tryd.ntmps6
  go_wp2_with fail
  refine (shown_any _ HT.out).mono ?_
  rintro e w1 ⟨rfl, hb1⟩
  have HT := Lib.hid (WTab.below HT.out hb1 (WTab.lt HT.out))
  have HL := Lib.hid (IsV.below HL.out hb1)
  have HB := Lib.hid hb1
  clear hb1
  have hX0 : x / 16 = X0 := HX0E.out.symm
  have hown00 := own_one w1 3 (.int .i64 X0) (base := w1.heap.size) (Nat.le_refl _)
  have hst : BackRel9 X0 f l0 w1 (.slice (some ⟨w1.heap.size, 0, none⟩) 1 1) (.int .i64 0) (w1.alloc (.cells #[.int .i64 X0] 3)) := ⟨0, by omega, by omega, rfl, by rw [show (drun X0 (dstepsOf f l0 0)).map iv = [.int .i64 X0] by simp [drun, dstepsOf, iv]]; exact hown00, (Below.refl _ _).alloc (Nat.le_refl _) _⟩
  have HST := Lib.hid hst
  obtain ⟨A0, n0, c0, rfl⟩ := IsV.shape HL.out
  obtain ⟨hn0, -, hc0, hm0, -⟩ := IsV.parts HL.out
  have hc0i : (c0 : Int) ≤ 9223372036854775807 := by unfold maxLen at hm0; omega
  have HN0 := Lib.hid hn0
  clear hn0 hm0 hst hown00
  go_wp2
  go_loopw [8, 9] (BackRel9 X0 f l0 w1) (fun _ i _ => 512 - (intOf i).toNat)
  case atStart => exact HST.out
  case round =>
    obtain ⟨k, hkl, hk5, rfl, hown, hbw⟩ := hrel
    have hkn : k ≤ n0 := by have := HN0.out; omega
    have hz := hbw.size
    have HX0B' := HX0B
    have HSTT := HST
    clear HST
    cases f with
    | true =>
      by_cases hgo : k < n0 ∧ k < 511
      · obtain ⟨h1, h2⟩ := hgo
        have d1 : decide (k < n0) = true := decide_eq_true h1
        have d2 : decide ((k : Int) < 511) = true := decide_eq_true (by omega)
        have hkl' : k < l0.length := by have := HN0.out; omega
        have hk0i : (k : Int) < (n0 : Int) := by omega
        obtain ⟨ad, hAd, _, hcell⟩ := (IsV.below HL.out hbw).at hkl'
        subst hAd
        obtain ⟨z, hzz⟩ : ∃ z, z = l0[k] := ⟨_, rfl⟩
        have hcx : wr.cell? (ad.add k) = some (.int .i64 z) := by rw [hcell, hzz]; rfl
        obtain ⟨D, hD⟩ : ∃ D, D = z % 1125899906842624 := ⟨_, rfl⟩
        have hand : bits .and .i64 z 1125899906842623 = D := by rw [i64_and50, hD]
        have hDb : 0 ≤ D ∧ D ≤ 1125899906842623 := by omega
        have HDS : Hid (dstepsOf true l0 (k + 1) = dstepsOf true l0 k ++ [(-D)]) := Lib.hid (by rw [dstepsOf_succ _ _ hkl', ← hzz, hD]; rfl)
        obtain ⟨a, ha⟩ : ∃ a, a = X0 + (dstepsOf true l0 k).sum := ⟨_, rfl⟩
        have hsb := dsum_bd (dstepsOf true l0 k) fun d hd => (dstepsOf_bd true l0 k d hd).1
        rw [dstepsOf_len true l0 hkl] at hsb
        have hab : -2000000000000000000 ≤ a ∧ a ≤ 2000000000000000000 := by have := HX0B.out; omega
        have hwa : IntKind.i64.wrap (a + (-D)) = a + (-D) := by rw [IntKind.wrap_i64]; omega
        have hwd : IntKind.i64.wrap (-D) = -D := by rw [IntKind.wrap_i64]; omega
        have HDR : Hid (drun X0 (dstepsOf true l0 (k + 1)) = drun X0 (dstepsOf true l0 k) ++ [a + (-D)]) := Lib.hid (by rw [HDS.out, drun_snoc, ha])
        have hI := isV_own hown
        obtain ⟨B8, n8, c8, rfl⟩ := hI.shape
        have hn8 := hI.parts.1
        rw [drun_len, dstepsOf_len true l0 hkl] at hn8
        subst hn8
        obtain ⟨b8, rfl, _, hc8⟩ := hI.at (k := k) (by rw [drun_len, dstepsOf_len true l0 hkl]; omega)
        have hca : wr.cell? (b8.add k) = some (.int .i64 a) := by
          rw [hc8, drun_get, List.take_of_length_le (by rw [dstepsOf_len true l0 hkl]; omega), ha]; rfl
        have hk1 : (k : Int) < ((k + 1 : Nat) : Int) := by omega
        clear hcell hzz hD hDb ha hsb hab hI hc8
        go_wp2_with (at_builtin; refine wpList_push elemI rfl _ _ rfl w1.heap.size _ _ _ (iv (a + (-D))) wr w1 rfl rfl rfl rfl hown hbw hz (by omega) (by omega) ?_)
        intro v5 w5 hown5 hb5 _ _
        have hrel : BackRel9 X0 true l0 w1 v5 (.int .i64 ((k : Int) + 1)) w5 := ⟨k + 1, hkl', by omega, by rw [Int.natCast_add]; rfl, by rw [HDR.out, List.map_append]; exact hown5, hb5⟩
        have HREL := Lib.hid hrel
        have hki : IntKind.i64.wrap ((k : Int) + 1) = (k : Int) + 1 := by rw [IntKind.wrap_i64]; omega
        clear hown5 hown hrel hb5
        go_wp2
        go_roundw
        case rel => exact HREL.out
        case measure => simp [intOf]; omega
      · have hds := dstepsOf_bd true l0 k
        have hdl := dstepsOf_len true l0 hkl
        obtain ⟨ds, hdse⟩ : ∃ ds, ds = dstepsOf true l0 k := ⟨_, rfl⟩
        rw [← hdse] at hds hdl hown
        clear hdse
        obtain ⟨own, howne⟩ : ∃ own, own = drun X0 ds := ⟨_, rfl⟩
        have hxo : ∀ y ∈ own, -2000000000000000000 ≤ y ∧ y ≤ 2000000000000000000 := by rw [howne]; exact drun_bd HX0B.out (by omega) fun d hd => (hds d hd).1
        have HXO : Hid (∀ y ∈ own, inInt y) := Lib.hid fun y hy => by have := hxo y hy; unfold inInt; omega
        have hol : own.length = k + 1 := by rw [howne, drun_len, hdl]
        have HOL : Hid (own.length ≤ 1000000) := Lib.hid (by omega)
        rw [← howne] at hown
        obtain ⟨on, hon⟩ : ∃ on, on = k + 1 := ⟨_, rfl⟩
        rw [← hon] at hown
        have HOLN : Hid (own.length = on) := Lib.hid (by rw [hol, hon])
        obtain ⟨Bo, co, rfl, _, hco, _, _, _⟩ := own_shape hown
        obtain ⟨og, rfl⟩ : ∃ og, Bo = some ⟨og, 0, none⟩ := by
          rcases hown.2 with ⟨h, h0⟩ | ⟨g, cap, cur, h, _⟩
          · omega
          · injection h with h; exact ⟨g, h⟩
        have hcoi : (co : Int) ≤ 9223372036854775807 := by unfold maxLen at hco; omega
        have H0 : Hid (∀ h : 0 < own.length, own[0] = X0) := Lib.hid fun h => by subst howne; rw [drun_get]; simp
        have HT := Lib.hid (WTab.below HT.out hbw (WTab.lt HT.out))
        have HB := Lib.hid (below_then HB.out hbw)
        have HO := Lib.hid (show IsV iv own (.slice (some ⟨og, 0, none⟩) on co) wr from isV_own hown)
        clear hbw hown
        clear hco
        by_cases hk0 : k = 0
        · have HE : Hid (gputE own true = ([], 1)) := Lib.hid (gputE_no (.inr (.inl (by omega))))
          have hon1 : (on : Int) < 2 := by omega
          clear hon hol hds hdl hxo howne
          have h1 : n0 ≤ k := by omega
          have d1 : decide (k < n0) = false := decide_eq_false (by omega)
          clear hk0
          have HP := Lib.hid (tput_any own (.slice (some ⟨og, 0, none⟩) on co) true wr HT.out HO.out HXO.out HOL.out)
          rw [HE.out] at HP
          go_wp2_with fail
          refine HP.out.mono ?_
          rintro e w31 ⟨vb, rfl, hvb, hb31⟩
          obtain ⟨Ab, cb, rfl, _⟩ := hvb
          have HT := Lib.hid (WTab.below HT.out hb31 (WTab.lt HT.out))
          have HO := Lib.hid (IsV.below HO.out hb31)
          have HB := Lib.hid (below_then HB.out hb31)
          clear hb31
          simp only [List.length_nil]
          go_wp2
          go_ret
          exact ⟨rfl, HB.out⟩
        · have hbk := back_put (x := X0) (by omega) hds
          rw [← howne] at hbk
          have hon2 : ¬ (on : Int) < 2 := by omega
          obtain ⟨y1, hy1⟩ : ∃ y, y = X0 + (ds.take 1).sum := ⟨_, rfl⟩
          have H1 : Hid (∀ h : 1 < own.length, own[1] = y1) := Lib.hid fun h => by subst howne; rw [drun_get, hy1]
          by_cases hg : ∃ us, gsizes own (gfalls own) (own.length - 1) = some us
          · obtain ⟨us, hus⟩ := hg
            have hgp := gput_plain (by omega) (by omega) hus
            have HTK := Lib.hid (gtake_back (s := true) (l := own) (fun y hy => ⟨HXO.out y hy, .inl rfl⟩) (by omega) (by omega) hus [9, 8])
            obtain ⟨bs, hbs⟩ : ∃ bs, bs = glay own true us := ⟨_, rfl⟩
            have HBL : Hid (bs.length ≤ 9000) := Lib.hid (by rw [hbs]; exact glay_len HXO.out (by omega) hus)
            rw [← hbs] at hgp HTK
            have HE := Lib.hid hgp
            clear hon hol hds hdl hxo howne hbk hus hgp hbs hy1
            cases heq : (y1 == X0) with
            | true =>
              have HEQ := Lib.hid heq
              clear heq
              rcases (by omega : n0 ≤ k ∨ (k < n0 ∧ 511 ≤ k)) with h1 | ⟨h1, h2⟩
              · have d1 : decide (k < n0) = false := decide_eq_false (by omega)
                have HP := Lib.hid (tput_any own (.slice (some ⟨og, 0, none⟩) on co) true wr HT.out HO.out HXO.out HOL.out)
                rw [HE.out] at HP
                go_wp2_with fail
                refine HP.out.mono ?_
                rintro e w31 ⟨vb, rfl, hvb, hb31⟩
                have HT := Lib.hid (WTab.below HT.out hb31 (WTab.lt HT.out))
                have HO := Lib.hid (IsV.below HO.out hb31)
                have HB := Lib.hid (below_then HB.out hb31)
                obtain ⟨Ab, nb, cb, rfl⟩ := IsV.shape (f := bv) hvb
                obtain ⟨hnb, hAb, -, hcb, hlb⟩ := IsV.parts (f := bv) (show IsV bv bs _ _ from hvb)
                have HBM := Lib.hid (show (bs.map bv).length = nb by rw [List.length_map]; exact hnb)
                have hnb5 : nb ≤ 9000 := by have := HBL.out; omega
                have HNB := Lib.hid hnb
                have HLB := Lib.hid hlb
                clear hvb hb31 hlb hnb hcb
                have hc0 := (HO.out.at (k := 0) (by have := HOLN.out; omega))
                have hc1 := (HO.out.at (k := 1) (by have := HOLN.out; omega))
                obtain ⟨_, hA0, _, hc0⟩ := hc0
                obtain ⟨_, hA1, _, hc1⟩ := hc1
                injection hA0 with hA0
                injection hA1 with hA1
                subst hA0 hA1
                rw [H0.out] at hc0
                rw [H1.out] at hc1
                have q0 : w31.cell? ⟨og, 0, none⟩ = some (.int .i64 X0) := hc0
                have q1 : w31.cell? ⟨og, 1, none⟩ = some (.int .i64 y1) := hc1
                have hon1 : (1 : Int) < (on : Int) := by omega
                have hon0 : (0 : Int) < (on : Int) := by omega
                have deq : (y1 == X0) = true := HEQ.out
                clear hc0 hc1
                go_wp2
                go_quiet (fail)
                obtain ⟨w32, hw32⟩ : ∃ w', w' = w31.drewN nq := ⟨_, rfl⟩
                rw [← hw32]
                have hb32 : Below w31.heap.size w31 w32 := by rw [hw32]; exact below_drewN (Below.refl _ _) _
                have HLB2 := Lib.hid (HLB.out.below hb32)
                clear hw32
                have HT := Lib.hid (WTab.below HT.out hb32 (WTab.lt HT.out))
                have HO := Lib.hid (IsV.below HO.out hb32)
                have HB := Lib.hid (below_then HB.out hb32)
                clear hb32 q0 q1 deq
                have hown0 := own_made w32 5
                have hbA : Below w32.heap.size w32 (w32.alloc (.cells #[] 5)) := (Below.refl _ _).alloc (Nat.le_refl _) _
                have hlA := HLB2.out.below hbA
                have hzz := hbA.size
                go_wp2_with (at_builtin; refine wpList_join elemB rfl _ _ rfl w32.heap.size _ _ _ _ _ _ (bs.map bv) w32 rfl rfl hAb HBM.out hlA (bv_one bs) hown0 hbA hzz (by omega) (by omega) ?_)
                intro v5 w5 hown5 hb5 _ _
                clear hown0 hbA hlA hzz
                have hown5' := hown5.alloc (.cells #[.int .u8 9, .int .u8 8] 5)
                have hb5' := hb5.alloc hb5.size (.cells #[.int .u8 9, .int .u8 8] 5)
                have hz5 := hb5'.size
                have hl98 : Lies (w5.alloc (.cells #[.int .u8 9, .int .u8 8] 5)) (some ⟨w5.heap.size, 0, none⟩) ([9, 8].map bv) := by have h : Row (w5.alloc (.cells ([9, 8].map bv).toArray 5)) w5.heap.size 5 ([9, 8].map bv) := heap_alloc_new w5 _; exact h.lies 0
                clear hown5 hb5
                go_wp2_with (at_builtin; refine wpList_join elemB rfl _ _ rfl w32.heap.size _ _ _ _ _ _ ([9, 8].map bv) w32 rfl rfl (by simp) rfl hl98 (bv_one _) hown5' hb5' hz5 (by omega) (by omega) ?_)
                intro v6 w6 hown6 hb6 _ _
                have HC := Lib.hid (show IsB (bs ++ [9, 8]) v6 w6 from isB_own (l := bs ++ [9, 8]) (n := nb + 2) (by rw [List.map_append]; simpa using hown6))
                have HT := Lib.hid (WTab.below HT.out hb6 (WTab.lt HT.out))
                have HO := Lib.hid (IsV.below HO.out hb6)
                have HB := Lib.hid (below_then HB.out hb6)
                clear hown5' hown6 hb5' hb6 hz5 hl98 hAb
                have HTA := Lib.hid (ttake_any (bs ++ [9, 8]) v6 true w6 HT.out HC.out (by rw [List.length_append, List.length_cons, List.length_cons, List.length_nil]; have := HNB.out; omega))
                rw [HTK.out] at HTA
                go_wp2_with fail
                refine (HTA.out).mono ?_
                rintro e w31 ⟨m, r, rfl, hm, hr, hb31⟩
                have HT := Lib.hid (WTab.below HT.out hb31 (WTab.lt HT.out))
                have HO := Lib.hid (IsV.below HO.out hb31)
                have HC := Lib.hid (IsB.below HC.out hb31)
                have HB := Lib.hid (below_then HB.out hb31)
                have HM := Lib.hid hm
                have HR := Lib.hid hr
                clear hm hr hb31
                go_wp2_with fail
                refine (same8_is HM.out HO.out HOL.out HOL.out).mono ?_
                rintro e w32 ⟨rfl, hb32⟩
                have HT := Lib.hid (WTab.below HT.out hb32 (WTab.lt HT.out))
                have HO := Lib.hid (IsV.below HO.out hb32)
                have HC := Lib.hid (IsB.below HC.out hb32)
                have HM := Lib.hid (IsV.below HM.out hb32)
                have HR := Lib.hid (IsB.below HR.out hb32)
                have HB := Lib.hid (below_then HB.out hb32)
                clear hb32
                have hz : (own == own) = true := by simp
                have hc1 := textB HR.out
                go_wp2
                go_ret
                exact ⟨rfl, HB.out⟩
              · have d1 : decide (k < n0) = true := decide_eq_true h1
                have d2 : decide ((k : Int) < 511) = false := decide_eq_false (by omega)
                have HP := Lib.hid (tput_any own (.slice (some ⟨og, 0, none⟩) on co) true wr HT.out HO.out HXO.out HOL.out)
                rw [HE.out] at HP
                go_wp2_with fail
                refine HP.out.mono ?_
                rintro e w31 ⟨vb, rfl, hvb, hb31⟩
                have HT := Lib.hid (WTab.below HT.out hb31 (WTab.lt HT.out))
                have HO := Lib.hid (IsV.below HO.out hb31)
                have HB := Lib.hid (below_then HB.out hb31)
                obtain ⟨Ab, nb, cb, rfl⟩ := IsV.shape (f := bv) hvb
                obtain ⟨hnb, hAb, -, hcb, hlb⟩ := IsV.parts (f := bv) (show IsV bv bs _ _ from hvb)
                have HBM := Lib.hid (show (bs.map bv).length = nb by rw [List.length_map]; exact hnb)
                have hnb5 : nb ≤ 9000 := by have := HBL.out; omega
                have HNB := Lib.hid hnb
                have HLB := Lib.hid hlb
                clear hvb hb31 hlb hnb hcb
                have hc0 := (HO.out.at (k := 0) (by have := HOLN.out; omega))
                have hc1 := (HO.out.at (k := 1) (by have := HOLN.out; omega))
                obtain ⟨_, hA0, _, hc0⟩ := hc0
                obtain ⟨_, hA1, _, hc1⟩ := hc1
                injection hA0 with hA0
                injection hA1 with hA1
                subst hA0 hA1
                rw [H0.out] at hc0
                rw [H1.out] at hc1
                have q0 : w31.cell? ⟨og, 0, none⟩ = some (.int .i64 X0) := hc0
                have q1 : w31.cell? ⟨og, 1, none⟩ = some (.int .i64 y1) := hc1
                have hon1 : (1 : Int) < (on : Int) := by omega
                have hon0 : (0 : Int) < (on : Int) := by omega
                have deq : (y1 == X0) = true := HEQ.out
                clear hc0 hc1
                go_wp2
                go_quiet (fail)
                obtain ⟨w32, hw32⟩ : ∃ w', w' = w31.drewN nq := ⟨_, rfl⟩
                rw [← hw32]
                have hb32 : Below w31.heap.size w31 w32 := by rw [hw32]; exact below_drewN (Below.refl _ _) _
                have HLB2 := Lib.hid (HLB.out.below hb32)
                clear hw32
                have HT := Lib.hid (WTab.below HT.out hb32 (WTab.lt HT.out))
                have HO := Lib.hid (IsV.below HO.out hb32)
                have HB := Lib.hid (below_then HB.out hb32)
                clear hb32 q0 q1 deq
                have hown0 := own_made w32 5
                have hbA : Below w32.heap.size w32 (w32.alloc (.cells #[] 5)) := (Below.refl _ _).alloc (Nat.le_refl _) _
                have hlA := HLB2.out.below hbA
                have hzz := hbA.size
                go_wp2_with (at_builtin; refine wpList_join elemB rfl _ _ rfl w32.heap.size _ _ _ _ _ _ (bs.map bv) w32 rfl rfl hAb HBM.out hlA (bv_one bs) hown0 hbA hzz (by omega) (by omega) ?_)
                intro v5 w5 hown5 hb5 _ _
                clear hown0 hbA hlA hzz
                have hown5' := hown5.alloc (.cells #[.int .u8 9, .int .u8 8] 5)
                have hb5' := hb5.alloc hb5.size (.cells #[.int .u8 9, .int .u8 8] 5)
                have hz5 := hb5'.size
                have hl98 : Lies (w5.alloc (.cells #[.int .u8 9, .int .u8 8] 5)) (some ⟨w5.heap.size, 0, none⟩) ([9, 8].map bv) := by have h : Row (w5.alloc (.cells ([9, 8].map bv).toArray 5)) w5.heap.size 5 ([9, 8].map bv) := heap_alloc_new w5 _; exact h.lies 0
                clear hown5 hb5
                go_wp2_with (at_builtin; refine wpList_join elemB rfl _ _ rfl w32.heap.size _ _ _ _ _ _ ([9, 8].map bv) w32 rfl rfl (by simp) rfl hl98 (bv_one _) hown5' hb5' hz5 (by omega) (by omega) ?_)
                intro v6 w6 hown6 hb6 _ _
                have HC := Lib.hid (show IsB (bs ++ [9, 8]) v6 w6 from isB_own (l := bs ++ [9, 8]) (n := nb + 2) (by rw [List.map_append]; simpa using hown6))
                have HT := Lib.hid (WTab.below HT.out hb6 (WTab.lt HT.out))
                have HO := Lib.hid (IsV.below HO.out hb6)
                have HB := Lib.hid (below_then HB.out hb6)
                clear hown5' hown6 hb5' hb6 hz5 hl98 hAb
                have HTA := Lib.hid (ttake_any (bs ++ [9, 8]) v6 true w6 HT.out HC.out (by rw [List.length_append, List.length_cons, List.length_cons, List.length_nil]; have := HNB.out; omega))
                rw [HTK.out] at HTA
                go_wp2_with fail
                refine (HTA.out).mono ?_
                rintro e w31 ⟨m, r, rfl, hm, hr, hb31⟩
                have HT := Lib.hid (WTab.below HT.out hb31 (WTab.lt HT.out))
                have HO := Lib.hid (IsV.below HO.out hb31)
                have HC := Lib.hid (IsB.below HC.out hb31)
                have HB := Lib.hid (below_then HB.out hb31)
                have HM := Lib.hid hm
                have HR := Lib.hid hr
                clear hm hr hb31
                go_wp2_with fail
                refine (same8_is HM.out HO.out HOL.out HOL.out).mono ?_
                rintro e w32 ⟨rfl, hb32⟩
                have HT := Lib.hid (WTab.below HT.out hb32 (WTab.lt HT.out))
                have HO := Lib.hid (IsV.below HO.out hb32)
                have HC := Lib.hid (IsB.below HC.out hb32)
                have HM := Lib.hid (IsV.below HM.out hb32)
                have HR := Lib.hid (IsB.below HR.out hb32)
                have HB := Lib.hid (below_then HB.out hb32)
                clear hb32
                have hz : (own == own) = true := by simp
                have hc1 := textB HR.out
                go_wp2
                go_ret
                exact ⟨rfl, HB.out⟩
            | false =>
              have HEQ := Lib.hid heq
              clear heq
              rcases (by omega : n0 ≤ k ∨ (k < n0 ∧ 511 ≤ k)) with h1 | ⟨h1, h2⟩
              · have d1 : decide (k < n0) = false := decide_eq_false (by omega)
                have HP := Lib.hid (tput_any own (.slice (some ⟨og, 0, none⟩) on co) true wr HT.out HO.out HXO.out HOL.out)
                rw [HE.out] at HP
                go_wp2_with fail
                refine HP.out.mono ?_
                rintro e w31 ⟨vb, rfl, hvb, hb31⟩
                have HT := Lib.hid (WTab.below HT.out hb31 (WTab.lt HT.out))
                have HO := Lib.hid (IsV.below HO.out hb31)
                have HB := Lib.hid (below_then HB.out hb31)
                obtain ⟨Ab, nb, cb, rfl⟩ := IsV.shape (f := bv) hvb
                obtain ⟨hnb, hAb, -, hcb, hlb⟩ := IsV.parts (f := bv) (show IsV bv bs _ _ from hvb)
                have HBM := Lib.hid (show (bs.map bv).length = nb by rw [List.length_map]; exact hnb)
                have hnb5 : nb ≤ 9000 := by have := HBL.out; omega
                have HNB := Lib.hid hnb
                have HLB := Lib.hid hlb
                clear hvb hb31 hlb hnb hcb
                have hc0 := (HO.out.at (k := 0) (by have := HOLN.out; omega))
                have hc1 := (HO.out.at (k := 1) (by have := HOLN.out; omega))
                obtain ⟨_, hA0, _, hc0⟩ := hc0
                obtain ⟨_, hA1, _, hc1⟩ := hc1
                injection hA0 with hA0
                injection hA1 with hA1
                subst hA0 hA1
                rw [H0.out] at hc0
                rw [H1.out] at hc1
                have q0 : w31.cell? ⟨og, 0, none⟩ = some (.int .i64 X0) := hc0
                have q1 : w31.cell? ⟨og, 1, none⟩ = some (.int .i64 y1) := hc1
                have hon1 : (1 : Int) < (on : Int) := by omega
                have hon0 : (0 : Int) < (on : Int) := by omega
                have deq : (y1 == X0) = false := HEQ.out
                clear hc0 hc1
                go_wp2
                go_quiet (fail)
                obtain ⟨w32, hw32⟩ : ∃ w', w' = w31.drewN nq := ⟨_, rfl⟩
                rw [← hw32]
                have hb32 : Below w31.heap.size w31 w32 := by rw [hw32]; exact below_drewN (Below.refl _ _) _
                have HLB2 := Lib.hid (HLB.out.below hb32)
                clear hw32
                have HT := Lib.hid (WTab.below HT.out hb32 (WTab.lt HT.out))
                have HO := Lib.hid (IsV.below HO.out hb32)
                have HB := Lib.hid (below_then HB.out hb32)
                clear hb32 q0 q1 deq
                have hown0 := own_made w32 5
                have hbA : Below w32.heap.size w32 (w32.alloc (.cells #[] 5)) := (Below.refl _ _).alloc (Nat.le_refl _) _
                have hlA := HLB2.out.below hbA
                have hzz := hbA.size
                go_wp2_with (at_builtin; refine wpList_join elemB rfl _ _ rfl w32.heap.size _ _ _ _ _ _ (bs.map bv) w32 rfl rfl hAb HBM.out hlA (bv_one bs) hown0 hbA hzz (by omega) (by omega) ?_)
                intro v5 w5 hown5 hb5 _ _
                clear hown0 hbA hlA hzz
                have hown5' := hown5.alloc (.cells #[.int .u8 9, .int .u8 8] 5)
                have hb5' := hb5.alloc hb5.size (.cells #[.int .u8 9, .int .u8 8] 5)
                have hz5 := hb5'.size
                have hl98 : Lies (w5.alloc (.cells #[.int .u8 9, .int .u8 8] 5)) (some ⟨w5.heap.size, 0, none⟩) ([9, 8].map bv) := by have h : Row (w5.alloc (.cells ([9, 8].map bv).toArray 5)) w5.heap.size 5 ([9, 8].map bv) := heap_alloc_new w5 _; exact h.lies 0
                clear hown5 hb5
                go_wp2_with (at_builtin; refine wpList_join elemB rfl _ _ rfl w32.heap.size _ _ _ _ _ _ ([9, 8].map bv) w32 rfl rfl (by simp) rfl hl98 (bv_one _) hown5' hb5' hz5 (by omega) (by omega) ?_)
                intro v6 w6 hown6 hb6 _ _
                have HC := Lib.hid (show IsB (bs ++ [9, 8]) v6 w6 from isB_own (l := bs ++ [9, 8]) (n := nb + 2) (by rw [List.map_append]; simpa using hown6))
                have HT := Lib.hid (WTab.below HT.out hb6 (WTab.lt HT.out))
                have HO := Lib.hid (IsV.below HO.out hb6)
                have HB := Lib.hid (below_then HB.out hb6)
                clear hown5' hown6 hb5' hb6 hz5 hl98 hAb
                have HTA := Lib.hid (ttake_any (bs ++ [9, 8]) v6 true w6 HT.out HC.out (by rw [List.length_append, List.length_cons, List.length_cons, List.length_nil]; have := HNB.out; omega))
                rw [HTK.out] at HTA
                go_wp2_with fail
                refine (HTA.out).mono ?_
                rintro e w31 ⟨m, r, rfl, hm, hr, hb31⟩
                have HT := Lib.hid (WTab.below HT.out hb31 (WTab.lt HT.out))
                have HO := Lib.hid (IsV.below HO.out hb31)
                have HC := Lib.hid (IsB.below HC.out hb31)
                have HB := Lib.hid (below_then HB.out hb31)
                have HM := Lib.hid hm
                have HR := Lib.hid hr
                clear hm hr hb31
                go_wp2_with fail
                refine (same8_is HM.out HO.out HOL.out HOL.out).mono ?_
                rintro e w32 ⟨rfl, hb32⟩
                have HT := Lib.hid (WTab.below HT.out hb32 (WTab.lt HT.out))
                have HO := Lib.hid (IsV.below HO.out hb32)
                have HC := Lib.hid (IsB.below HC.out hb32)
                have HM := Lib.hid (IsV.below HM.out hb32)
                have HR := Lib.hid (IsB.below HR.out hb32)
                have HB := Lib.hid (below_then HB.out hb32)
                clear hb32
                have hz : (own == own) = true := by simp
                have hc1 := textB HR.out
                go_wp2
                go_ret
                exact ⟨rfl, HB.out⟩
              · have d1 : decide (k < n0) = true := decide_eq_true h1
                have d2 : decide ((k : Int) < 511) = false := decide_eq_false (by omega)
                have HP := Lib.hid (tput_any own (.slice (some ⟨og, 0, none⟩) on co) true wr HT.out HO.out HXO.out HOL.out)
                rw [HE.out] at HP
                go_wp2_with fail
                refine HP.out.mono ?_
                rintro e w31 ⟨vb, rfl, hvb, hb31⟩
                have HT := Lib.hid (WTab.below HT.out hb31 (WTab.lt HT.out))
                have HO := Lib.hid (IsV.below HO.out hb31)
                have HB := Lib.hid (below_then HB.out hb31)
                obtain ⟨Ab, nb, cb, rfl⟩ := IsV.shape (f := bv) hvb
                obtain ⟨hnb, hAb, -, hcb, hlb⟩ := IsV.parts (f := bv) (show IsV bv bs _ _ from hvb)
                have HBM := Lib.hid (show (bs.map bv).length = nb by rw [List.length_map]; exact hnb)
                have hnb5 : nb ≤ 9000 := by have := HBL.out; omega
                have HNB := Lib.hid hnb
                have HLB := Lib.hid hlb
                clear hvb hb31 hlb hnb hcb
                have hc0 := (HO.out.at (k := 0) (by have := HOLN.out; omega))
                have hc1 := (HO.out.at (k := 1) (by have := HOLN.out; omega))
                obtain ⟨_, hA0, _, hc0⟩ := hc0
                obtain ⟨_, hA1, _, hc1⟩ := hc1
                injection hA0 with hA0
                injection hA1 with hA1
                subst hA0 hA1
                rw [H0.out] at hc0
                rw [H1.out] at hc1
                have q0 : w31.cell? ⟨og, 0, none⟩ = some (.int .i64 X0) := hc0
                have q1 : w31.cell? ⟨og, 1, none⟩ = some (.int .i64 y1) := hc1
                have hon1 : (1 : Int) < (on : Int) := by omega
                have hon0 : (0 : Int) < (on : Int) := by omega
                have deq : (y1 == X0) = false := HEQ.out
                clear hc0 hc1
                go_wp2
                go_quiet (fail)
                obtain ⟨w32, hw32⟩ : ∃ w', w' = w31.drewN nq := ⟨_, rfl⟩
                rw [← hw32]
                have hb32 : Below w31.heap.size w31 w32 := by rw [hw32]; exact below_drewN (Below.refl _ _) _
                have HLB2 := Lib.hid (HLB.out.below hb32)
                clear hw32
                have HT := Lib.hid (WTab.below HT.out hb32 (WTab.lt HT.out))
                have HO := Lib.hid (IsV.below HO.out hb32)
                have HB := Lib.hid (below_then HB.out hb32)
                clear hb32 q0 q1 deq
                have hown0 := own_made w32 5
                have hbA : Below w32.heap.size w32 (w32.alloc (.cells #[] 5)) := (Below.refl _ _).alloc (Nat.le_refl _) _
                have hlA := HLB2.out.below hbA
                have hzz := hbA.size
                go_wp2_with (at_builtin; refine wpList_join elemB rfl _ _ rfl w32.heap.size _ _ _ _ _ _ (bs.map bv) w32 rfl rfl hAb HBM.out hlA (bv_one bs) hown0 hbA hzz (by omega) (by omega) ?_)
                intro v5 w5 hown5 hb5 _ _
                clear hown0 hbA hlA hzz
                have hown5' := hown5.alloc (.cells #[.int .u8 9, .int .u8 8] 5)
                have hb5' := hb5.alloc hb5.size (.cells #[.int .u8 9, .int .u8 8] 5)
                have hz5 := hb5'.size
                have hl98 : Lies (w5.alloc (.cells #[.int .u8 9, .int .u8 8] 5)) (some ⟨w5.heap.size, 0, none⟩) ([9, 8].map bv) := by have h : Row (w5.alloc (.cells ([9, 8].map bv).toArray 5)) w5.heap.size 5 ([9, 8].map bv) := heap_alloc_new w5 _; exact h.lies 0
                clear hown5 hb5
                go_wp2_with (at_builtin; refine wpList_join elemB rfl _ _ rfl w32.heap.size _ _ _ _ _ _ ([9, 8].map bv) w32 rfl rfl (by simp) rfl hl98 (bv_one _) hown5' hb5' hz5 (by omega) (by omega) ?_)
                intro v6 w6 hown6 hb6 _ _
                have HC := Lib.hid (show IsB (bs ++ [9, 8]) v6 w6 from isB_own (l := bs ++ [9, 8]) (n := nb + 2) (by rw [List.map_append]; simpa using hown6))
                have HT := Lib.hid (WTab.below HT.out hb6 (WTab.lt HT.out))
                have HO := Lib.hid (IsV.below HO.out hb6)
                have HB := Lib.hid (below_then HB.out hb6)
                clear hown5' hown6 hb5' hb6 hz5 hl98 hAb
                have HTA := Lib.hid (ttake_any (bs ++ [9, 8]) v6 true w6 HT.out HC.out (by rw [List.length_append, List.length_cons, List.length_cons, List.length_nil]; have := HNB.out; omega))
                rw [HTK.out] at HTA
                go_wp2_with fail
                refine (HTA.out).mono ?_
                rintro e w31 ⟨m, r, rfl, hm, hr, hb31⟩
                have HT := Lib.hid (WTab.below HT.out hb31 (WTab.lt HT.out))
                have HO := Lib.hid (IsV.below HO.out hb31)
                have HC := Lib.hid (IsB.below HC.out hb31)
                have HB := Lib.hid (below_then HB.out hb31)
                have HM := Lib.hid hm
                have HR := Lib.hid hr
                clear hm hr hb31
                go_wp2_with fail
                refine (same8_is HM.out HO.out HOL.out HOL.out).mono ?_
                rintro e w32 ⟨rfl, hb32⟩
                have HT := Lib.hid (WTab.below HT.out hb32 (WTab.lt HT.out))
                have HO := Lib.hid (IsV.below HO.out hb32)
                have HC := Lib.hid (IsB.below HC.out hb32)
                have HM := Lib.hid (IsV.below HM.out hb32)
                have HR := Lib.hid (IsB.below HR.out hb32)
                have HB := Lib.hid (below_then HB.out hb32)
                clear hb32
                have hz : (own == own) = true := by simp
                have hc1 := textB HR.out
                go_wp2
                go_ret
                exact ⟨rfl, HB.out⟩
          · have hbad := hbk.resolve_left hg
            obtain ⟨hE, -, hs0, hs1⟩ := hbad
            have HE := Lib.hid hE
            rw [hs0, Int.add_zero] at hy1
            subst hy1
            obtain ⟨y, hy⟩ : ∃ y, y = y1 + ds.sum := ⟨_, rfl⟩
            obtain ⟨lst, hlst⟩ : ∃ lst, lst = k := ⟨_, rfl⟩
            have HLS : Hid (∀ h : lst < own.length, own[lst] = y) := Lib.hid fun h => by subst howne; rw [drun_get, hy, List.take_of_length_le (by omega)]
            have HY : Hid (y < y1) := Lib.hid (by omega)
            have hlon : (on : Int) - 1 = (lst : Int) := by omega
            have hlst5 : lst ≤ 511 := by omega
            have hlo : lst < on := by omega
            have hon1' : 1 < on := by omega
            clear hon hol hds hdl hxo howne hbk hE hs0 hs1 hy hlst
            rcases (by omega : n0 ≤ k ∨ (k < n0 ∧ 511 ≤ k)) with h1 | ⟨h1, h2⟩
            · have d1 : decide (k < n0) = false := decide_eq_false (by omega)
              have HP := Lib.hid (tput_any own (.slice (some ⟨og, 0, none⟩) on co) true wr HT.out HO.out HXO.out HOL.out)
              rw [HE.out] at HP
              go_wp2_with fail
              refine HP.out.mono ?_
              rintro e w31 ⟨vb, rfl, hvb, hb31⟩
              obtain ⟨Ab, cb, rfl, _⟩ := hvb
              have HT := Lib.hid (WTab.below HT.out hb31 (WTab.lt HT.out))
              have HO := Lib.hid (IsV.below HO.out hb31)
              have HB := Lib.hid (below_then HB.out hb31)
              simp only [List.length_nil]
              have hc0 := (HO.out.at (k := 0) (by have := HOLN.out; omega))
              have hc1 := (HO.out.at (k := 1) (by have := HOLN.out; omega))
              have hcl := (HO.out.at (k := lst) (by have := HOLN.out; omega))
              obtain ⟨_, hA0, _, hc0⟩ := hc0
              obtain ⟨_, hA1, _, hc1⟩ := hc1
              obtain ⟨_, hAl, _, hcl⟩ := hcl
              injection hA0 with hA0
              injection hA1 with hA1
              injection hAl with hAl
              subst hA0 hA1 hAl
              rw [H0.out] at hc0
              rw [H1.out] at hc1
              rw [HLS.out] at hcl
              have q0 : w31.cell? ⟨og, 0, none⟩ = some (.int .i64 y1) := hc0
              have q1 : w31.cell? ⟨og, 1, none⟩ = some (.int .i64 y1) := hc1
              have ql : w31.cell? ⟨og, lst, none⟩ = some (.int .i64 y) := by rw [← add_row og lst]; exact hcl
              have dy : decide (y < y1) = true := decide_eq_true HY.out
              have hlw : IntKind.i64.wrap (lst : Int) = (lst : Int) := by rw [IntKind.wrap_i64]; omega
              have hl0 : (lst : Int) < (on : Int) := by omega
              have hon1 : (1 : Int) < (on : Int) := by omega
              have hon0 : (0 : Int) < (on : Int) := by omega
              clear hc0 hc1 hcl hb31
              go_wp2
              go_quiet (fail)
              go_wp2
              go_quiet (fail)
              go_wp2
              go_ret
              exact ⟨rfl, below_drewN (below_drewN HB.out _) _⟩
            · have d1 : decide (k < n0) = true := decide_eq_true h1
              have d2 : decide ((k : Int) < 511) = false := decide_eq_false (by omega)
              have HP := Lib.hid (tput_any own (.slice (some ⟨og, 0, none⟩) on co) true wr HT.out HO.out HXO.out HOL.out)
              rw [HE.out] at HP
              go_wp2_with fail
              refine HP.out.mono ?_
              rintro e w31 ⟨vb, rfl, hvb, hb31⟩
              obtain ⟨Ab, cb, rfl, _⟩ := hvb
              have HT := Lib.hid (WTab.below HT.out hb31 (WTab.lt HT.out))
              have HO := Lib.hid (IsV.below HO.out hb31)
              have HB := Lib.hid (below_then HB.out hb31)
              simp only [List.length_nil]
              have hc0 := (HO.out.at (k := 0) (by have := HOLN.out; omega))
              have hc1 := (HO.out.at (k := 1) (by have := HOLN.out; omega))
              have hcl := (HO.out.at (k := lst) (by have := HOLN.out; omega))
              obtain ⟨_, hA0, _, hc0⟩ := hc0
              obtain ⟨_, hA1, _, hc1⟩ := hc1
              obtain ⟨_, hAl, _, hcl⟩ := hcl
              injection hA0 with hA0
              injection hA1 with hA1
              injection hAl with hAl
              subst hA0 hA1 hAl
              rw [H0.out] at hc0
              rw [H1.out] at hc1
              rw [HLS.out] at hcl
              have q0 : w31.cell? ⟨og, 0, none⟩ = some (.int .i64 y1) := hc0
              have q1 : w31.cell? ⟨og, 1, none⟩ = some (.int .i64 y1) := hc1
              have ql : w31.cell? ⟨og, lst, none⟩ = some (.int .i64 y) := by rw [← add_row og lst]; exact hcl
              have dy : decide (y < y1) = true := decide_eq_true HY.out
              have hlw : IntKind.i64.wrap (lst : Int) = (lst : Int) := by rw [IntKind.wrap_i64]; omega
              have hl0 : (lst : Int) < (on : Int) := by omega
              have hon1 : (1 : Int) < (on : Int) := by omega
              have hon0 : (0 : Int) < (on : Int) := by omega
              clear hc0 hc1 hcl hb31
              go_wp2
              go_quiet (fail)
              go_wp2
              go_quiet (fail)
              go_wp2
              go_ret
              exact ⟨rfl, below_drewN (below_drewN HB.out _) _⟩
    | false =>
      by_cases hgo : k < n0 ∧ k < 511
      · obtain ⟨h1, h2⟩ := hgo
        have d1 : decide (k < n0) = true := decide_eq_true h1
        have d2 : decide ((k : Int) < 511) = true := decide_eq_true (by omega)
        have hkl' : k < l0.length := by have := HN0.out; omega
        have hk0i : (k : Int) < (n0 : Int) := by omega
        obtain ⟨ad, hAd, _, hcell⟩ := (IsV.below HL.out hbw).at hkl'
        subst hAd
        obtain ⟨z, hzz⟩ : ∃ z, z = l0[k] := ⟨_, rfl⟩
        have hcx : wr.cell? (ad.add k) = some (.int .i64 z) := by rw [hcell, hzz]; rfl
        obtain ⟨D, hD⟩ : ∃ D, D = z % 1125899906842624 := ⟨_, rfl⟩
        have hand : bits .and .i64 z 1125899906842623 = D := by rw [i64_and50, hD]
        have hDb : 0 ≤ D ∧ D ≤ 1125899906842623 := by omega
        have HDS : Hid (dstepsOf false l0 (k + 1) = dstepsOf false l0 k ++ [D]) := Lib.hid (by rw [dstepsOf_succ _ _ hkl', ← hzz, hD]; rfl)
        obtain ⟨a, ha⟩ : ∃ a, a = X0 + (dstepsOf false l0 k).sum := ⟨_, rfl⟩
        have hsb := dsum_bd (dstepsOf false l0 k) fun d hd => (dstepsOf_bd false l0 k d hd).1
        rw [dstepsOf_len false l0 hkl] at hsb
        have hab : -2000000000000000000 ≤ a ∧ a ≤ 2000000000000000000 := by have := HX0B.out; omega
        have hwa : IntKind.i64.wrap (a + D) = a + D := by rw [IntKind.wrap_i64]; omega
        have hwd : IntKind.i64.wrap (-D) = -D := by rw [IntKind.wrap_i64]; omega
        have HDR : Hid (drun X0 (dstepsOf false l0 (k + 1)) = drun X0 (dstepsOf false l0 k) ++ [a + D]) := Lib.hid (by rw [HDS.out, drun_snoc, ha])
        have hI := isV_own hown
        obtain ⟨B8, n8, c8, rfl⟩ := hI.shape
        have hn8 := hI.parts.1
        rw [drun_len, dstepsOf_len false l0 hkl] at hn8
        subst hn8
        obtain ⟨b8, rfl, _, hc8⟩ := hI.at (k := k) (by rw [drun_len, dstepsOf_len false l0 hkl]; omega)
        have hca : wr.cell? (b8.add k) = some (.int .i64 a) := by
          rw [hc8, drun_get, List.take_of_length_le (by rw [dstepsOf_len false l0 hkl]; omega), ha]; rfl
        have hk1 : (k : Int) < ((k + 1 : Nat) : Int) := by omega
        clear hcell hzz hD hDb ha hsb hab hI hc8
        go_wp2_with (at_builtin; refine wpList_push elemI rfl _ _ rfl w1.heap.size _ _ _ (iv (a + D)) wr w1 rfl rfl rfl rfl hown hbw hz (by omega) (by omega) ?_)
        intro v5 w5 hown5 hb5 _ _
        have hrel : BackRel9 X0 false l0 w1 v5 (.int .i64 ((k : Int) + 1)) w5 := ⟨k + 1, hkl', by omega, by rw [Int.natCast_add]; rfl, by rw [HDR.out, List.map_append]; exact hown5, hb5⟩
        have HREL := Lib.hid hrel
        have hki : IntKind.i64.wrap ((k : Int) + 1) = (k : Int) + 1 := by rw [IntKind.wrap_i64]; omega
        clear hown5 hown hrel hb5
        go_wp2
        go_roundw
        case rel => exact HREL.out
        case measure => simp [intOf]; omega
      · have hds := dstepsOf_bd false l0 k
        have hdl := dstepsOf_len false l0 hkl
        obtain ⟨ds, hdse⟩ : ∃ ds, ds = dstepsOf false l0 k := ⟨_, rfl⟩
        rw [← hdse] at hds hdl hown
        clear hdse
        obtain ⟨own, howne⟩ : ∃ own, own = drun X0 ds := ⟨_, rfl⟩
        have hxo : ∀ y ∈ own, -2000000000000000000 ≤ y ∧ y ≤ 2000000000000000000 := by rw [howne]; exact drun_bd HX0B.out (by omega) fun d hd => (hds d hd).1
        have HXO : Hid (∀ y ∈ own, inInt y) := Lib.hid fun y hy => by have := hxo y hy; unfold inInt; omega
        have hol : own.length = k + 1 := by rw [howne, drun_len, hdl]
        have HOL : Hid (own.length ≤ 1000000) := Lib.hid (by omega)
        rw [← howne] at hown
        obtain ⟨on, hon⟩ : ∃ on, on = k + 1 := ⟨_, rfl⟩
        rw [← hon] at hown
        have HOLN : Hid (own.length = on) := Lib.hid (by rw [hol, hon])
        obtain ⟨Bo, co, rfl, _, hco, _, _, _⟩ := own_shape hown
        obtain ⟨og, rfl⟩ : ∃ og, Bo = some ⟨og, 0, none⟩ := by
          rcases hown.2 with ⟨h, h0⟩ | ⟨g, cap, cur, h, _⟩
          · omega
          · injection h with h; exact ⟨g, h⟩
        have hcoi : (co : Int) ≤ 9223372036854775807 := by unfold maxLen at hco; omega
        have H0 : Hid (∀ h : 0 < own.length, own[0] = X0) := Lib.hid fun h => by subst howne; rw [drun_get]; simp
        have HT := Lib.hid (WTab.below HT.out hbw (WTab.lt HT.out))
        have HB := Lib.hid (below_then HB.out hbw)
        have HO := Lib.hid (show IsV iv own (.slice (some ⟨og, 0, none⟩) on co) wr from isV_own hown)
        clear hbw hown
        clear hco
        by_cases hk0 : k = 0
        · have HE : Hid (gputE own true = ([], 1)) := Lib.hid (gputE_no (.inr (.inl (by omega))))
          have hon1 : (on : Int) < 2 := by omega
          clear hon hol hds hdl hxo howne
          have h1 : n0 ≤ k := by omega
          have d1 : decide (k < n0) = false := decide_eq_false (by omega)
          clear hk0
          have HP := Lib.hid (tput_any own (.slice (some ⟨og, 0, none⟩) on co) true wr HT.out HO.out HXO.out HOL.out)
          rw [HE.out] at HP
          go_wp2_with fail
          refine HP.out.mono ?_
          rintro e w31 ⟨vb, rfl, hvb, hb31⟩
          obtain ⟨Ab, cb, rfl, _⟩ := hvb
          have HT := Lib.hid (WTab.below HT.out hb31 (WTab.lt HT.out))
          have HO := Lib.hid (IsV.below HO.out hb31)
          have HB := Lib.hid (below_then HB.out hb31)
          clear hb31
          simp only [List.length_nil]
          go_wp2
          go_ret
          exact ⟨rfl, HB.out⟩
        · have hbk := back_put (x := X0) (by omega) hds
          rw [← howne] at hbk
          have hon2 : ¬ (on : Int) < 2 := by omega
          obtain ⟨y1, hy1⟩ : ∃ y, y = X0 + (ds.take 1).sum := ⟨_, rfl⟩
          have H1 : Hid (∀ h : 1 < own.length, own[1] = y1) := Lib.hid fun h => by subst howne; rw [drun_get, hy1]
          by_cases hg : ∃ us, gsizes own (gfalls own) (own.length - 1) = some us
          · obtain ⟨us, hus⟩ := hg
            have hgp := gput_plain (by omega) (by omega) hus
            have HTK := Lib.hid (gtake_back (s := true) (l := own) (fun y hy => ⟨HXO.out y hy, .inl rfl⟩) (by omega) (by omega) hus [9, 8])
            obtain ⟨bs, hbs⟩ : ∃ bs, bs = glay own true us := ⟨_, rfl⟩
            have HBL : Hid (bs.length ≤ 9000) := Lib.hid (by rw [hbs]; exact glay_len HXO.out (by omega) hus)
            rw [← hbs] at hgp HTK
            have HE := Lib.hid hgp
            clear hon hol hds hdl hxo howne hbk hus hgp hbs hy1
            rcases (by omega : n0 ≤ k ∨ (k < n0 ∧ 511 ≤ k)) with h1 | ⟨h1, h2⟩
            · have d1 : decide (k < n0) = false := decide_eq_false (by omega)
              have HP := Lib.hid (tput_any own (.slice (some ⟨og, 0, none⟩) on co) true wr HT.out HO.out HXO.out HOL.out)
              rw [HE.out] at HP
              go_wp2_with fail
              refine HP.out.mono ?_
              rintro e w31 ⟨vb, rfl, hvb, hb31⟩
              have HT := Lib.hid (WTab.below HT.out hb31 (WTab.lt HT.out))
              have HO := Lib.hid (IsV.below HO.out hb31)
              have HB := Lib.hid (below_then HB.out hb31)
              obtain ⟨Ab, nb, cb, rfl⟩ := IsV.shape (f := bv) hvb
              obtain ⟨hnb, hAb, -, hcb, hlb⟩ := IsV.parts (f := bv) (show IsV bv bs _ _ from hvb)
              have HBM := Lib.hid (show (bs.map bv).length = nb by rw [List.length_map]; exact hnb)
              have hnb5 : nb ≤ 9000 := by have := HBL.out; omega
              have HNB := Lib.hid hnb
              have HLB := Lib.hid hlb
              clear hvb hb31 hlb hnb hcb
              go_wp2
              go_quiet (fail)
              obtain ⟨w32, hw32⟩ : ∃ w', w' = w31.drewN nq := ⟨_, rfl⟩
              rw [← hw32]
              have hb32 : Below w31.heap.size w31 w32 := by rw [hw32]; exact below_drewN (Below.refl _ _) _
              have HLB2 := Lib.hid (HLB.out.below hb32)
              clear hw32
              have HT := Lib.hid (WTab.below HT.out hb32 (WTab.lt HT.out))
              have HO := Lib.hid (IsV.below HO.out hb32)
              have HB := Lib.hid (below_then HB.out hb32)
              clear hb32
              have hown0 := own_made w32 5
              have hbA : Below w32.heap.size w32 (w32.alloc (.cells #[] 5)) := (Below.refl _ _).alloc (Nat.le_refl _) _
              have hlA := HLB2.out.below hbA
              have hzz := hbA.size
              go_wp2_with (at_builtin; refine wpList_join elemB rfl _ _ rfl w32.heap.size _ _ _ _ _ _ (bs.map bv) w32 rfl rfl hAb HBM.out hlA (bv_one bs) hown0 hbA hzz (by omega) (by omega) ?_)
              intro v5 w5 hown5 hb5 _ _
              clear hown0 hbA hlA hzz
              have hown5' := hown5.alloc (.cells #[.int .u8 9, .int .u8 8] 5)
              have hb5' := hb5.alloc hb5.size (.cells #[.int .u8 9, .int .u8 8] 5)
              have hz5 := hb5'.size
              have hl98 : Lies (w5.alloc (.cells #[.int .u8 9, .int .u8 8] 5)) (some ⟨w5.heap.size, 0, none⟩) ([9, 8].map bv) := by have h : Row (w5.alloc (.cells ([9, 8].map bv).toArray 5)) w5.heap.size 5 ([9, 8].map bv) := heap_alloc_new w5 _; exact h.lies 0
              clear hown5 hb5
              go_wp2_with (at_builtin; refine wpList_join elemB rfl _ _ rfl w32.heap.size _ _ _ _ _ _ ([9, 8].map bv) w32 rfl rfl (by simp) rfl hl98 (bv_one _) hown5' hb5' hz5 (by omega) (by omega) ?_)
              intro v6 w6 hown6 hb6 _ _
              have HC := Lib.hid (show IsB (bs ++ [9, 8]) v6 w6 from isB_own (l := bs ++ [9, 8]) (n := nb + 2) (by rw [List.map_append]; simpa using hown6))
              have HT := Lib.hid (WTab.below HT.out hb6 (WTab.lt HT.out))
              have HO := Lib.hid (IsV.below HO.out hb6)
              have HB := Lib.hid (below_then HB.out hb6)
              clear hown5' hown6 hb5' hb6 hz5 hl98 hAb
              have HTA := Lib.hid (ttake_any (bs ++ [9, 8]) v6 true w6 HT.out HC.out (by rw [List.length_append, List.length_cons, List.length_cons, List.length_nil]; have := HNB.out; omega))
              rw [HTK.out] at HTA
              go_wp2_with fail
              refine (HTA.out).mono ?_
              rintro e w31 ⟨m, r, rfl, hm, hr, hb31⟩
              have HT := Lib.hid (WTab.below HT.out hb31 (WTab.lt HT.out))
              have HO := Lib.hid (IsV.below HO.out hb31)
              have HC := Lib.hid (IsB.below HC.out hb31)
              have HB := Lib.hid (below_then HB.out hb31)
              have HM := Lib.hid hm
              have HR := Lib.hid hr
              clear hm hr hb31
              go_wp2_with fail
              refine (same8_is HM.out HO.out HOL.out HOL.out).mono ?_
              rintro e w32 ⟨rfl, hb32⟩
              have HT := Lib.hid (WTab.below HT.out hb32 (WTab.lt HT.out))
              have HO := Lib.hid (IsV.below HO.out hb32)
              have HC := Lib.hid (IsB.below HC.out hb32)
              have HM := Lib.hid (IsV.below HM.out hb32)
              have HR := Lib.hid (IsB.below HR.out hb32)
              have HB := Lib.hid (below_then HB.out hb32)
              clear hb32
              have hz : (own == own) = true := by simp
              have hc1 := textB HR.out
              go_wp2
              go_ret
              exact ⟨rfl, HB.out⟩
            · have d1 : decide (k < n0) = true := decide_eq_true h1
              have d2 : decide ((k : Int) < 511) = false := decide_eq_false (by omega)
              have HP := Lib.hid (tput_any own (.slice (some ⟨og, 0, none⟩) on co) true wr HT.out HO.out HXO.out HOL.out)
              rw [HE.out] at HP
              go_wp2_with fail
              refine HP.out.mono ?_
              rintro e w31 ⟨vb, rfl, hvb, hb31⟩
              have HT := Lib.hid (WTab.below HT.out hb31 (WTab.lt HT.out))
              have HO := Lib.hid (IsV.below HO.out hb31)
              have HB := Lib.hid (below_then HB.out hb31)
              obtain ⟨Ab, nb, cb, rfl⟩ := IsV.shape (f := bv) hvb
              obtain ⟨hnb, hAb, -, hcb, hlb⟩ := IsV.parts (f := bv) (show IsV bv bs _ _ from hvb)
              have HBM := Lib.hid (show (bs.map bv).length = nb by rw [List.length_map]; exact hnb)
              have hnb5 : nb ≤ 9000 := by have := HBL.out; omega
              have HNB := Lib.hid hnb
              have HLB := Lib.hid hlb
              clear hvb hb31 hlb hnb hcb
              go_wp2
              go_quiet (fail)
              obtain ⟨w32, hw32⟩ : ∃ w', w' = w31.drewN nq := ⟨_, rfl⟩
              rw [← hw32]
              have hb32 : Below w31.heap.size w31 w32 := by rw [hw32]; exact below_drewN (Below.refl _ _) _
              have HLB2 := Lib.hid (HLB.out.below hb32)
              clear hw32
              have HT := Lib.hid (WTab.below HT.out hb32 (WTab.lt HT.out))
              have HO := Lib.hid (IsV.below HO.out hb32)
              have HB := Lib.hid (below_then HB.out hb32)
              clear hb32
              have hown0 := own_made w32 5
              have hbA : Below w32.heap.size w32 (w32.alloc (.cells #[] 5)) := (Below.refl _ _).alloc (Nat.le_refl _) _
              have hlA := HLB2.out.below hbA
              have hzz := hbA.size
              go_wp2_with (at_builtin; refine wpList_join elemB rfl _ _ rfl w32.heap.size _ _ _ _ _ _ (bs.map bv) w32 rfl rfl hAb HBM.out hlA (bv_one bs) hown0 hbA hzz (by omega) (by omega) ?_)
              intro v5 w5 hown5 hb5 _ _
              clear hown0 hbA hlA hzz
              have hown5' := hown5.alloc (.cells #[.int .u8 9, .int .u8 8] 5)
              have hb5' := hb5.alloc hb5.size (.cells #[.int .u8 9, .int .u8 8] 5)
              have hz5 := hb5'.size
              have hl98 : Lies (w5.alloc (.cells #[.int .u8 9, .int .u8 8] 5)) (some ⟨w5.heap.size, 0, none⟩) ([9, 8].map bv) := by have h : Row (w5.alloc (.cells ([9, 8].map bv).toArray 5)) w5.heap.size 5 ([9, 8].map bv) := heap_alloc_new w5 _; exact h.lies 0
              clear hown5 hb5
              go_wp2_with (at_builtin; refine wpList_join elemB rfl _ _ rfl w32.heap.size _ _ _ _ _ _ ([9, 8].map bv) w32 rfl rfl (by simp) rfl hl98 (bv_one _) hown5' hb5' hz5 (by omega) (by omega) ?_)
              intro v6 w6 hown6 hb6 _ _
              have HC := Lib.hid (show IsB (bs ++ [9, 8]) v6 w6 from isB_own (l := bs ++ [9, 8]) (n := nb + 2) (by rw [List.map_append]; simpa using hown6))
              have HT := Lib.hid (WTab.below HT.out hb6 (WTab.lt HT.out))
              have HO := Lib.hid (IsV.below HO.out hb6)
              have HB := Lib.hid (below_then HB.out hb6)
              clear hown5' hown6 hb5' hb6 hz5 hl98 hAb
              have HTA := Lib.hid (ttake_any (bs ++ [9, 8]) v6 true w6 HT.out HC.out (by rw [List.length_append, List.length_cons, List.length_cons, List.length_nil]; have := HNB.out; omega))
              rw [HTK.out] at HTA
              go_wp2_with fail
              refine (HTA.out).mono ?_
              rintro e w31 ⟨m, r, rfl, hm, hr, hb31⟩
              have HT := Lib.hid (WTab.below HT.out hb31 (WTab.lt HT.out))
              have HO := Lib.hid (IsV.below HO.out hb31)
              have HC := Lib.hid (IsB.below HC.out hb31)
              have HB := Lib.hid (below_then HB.out hb31)
              have HM := Lib.hid hm
              have HR := Lib.hid hr
              clear hm hr hb31
              go_wp2_with fail
              refine (same8_is HM.out HO.out HOL.out HOL.out).mono ?_
              rintro e w32 ⟨rfl, hb32⟩
              have HT := Lib.hid (WTab.below HT.out hb32 (WTab.lt HT.out))
              have HO := Lib.hid (IsV.below HO.out hb32)
              have HC := Lib.hid (IsB.below HC.out hb32)
              have HM := Lib.hid (IsV.below HM.out hb32)
              have HR := Lib.hid (IsB.below HR.out hb32)
              have HB := Lib.hid (below_then HB.out hb32)
              clear hb32
              have hz : (own == own) = true := by simp
              have hc1 := textB HR.out
              go_wp2
              go_ret
              exact ⟨rfl, HB.out⟩
          · have hbad := hbk.resolve_left hg
            exact absurd hbad.2.1 (by decide)

set_option maxRecDepth 100000 in
theorem DeltaBack_lifted (os : Os) (started : os.Started) (H : Type) (enc : TypeId × Value → H) :
    ReturnsInHanded {} Tryd.checked os 6 .any (fun w args => (Rows.deltaBackSpec.pre enc Tryd.prog Tryd.f6 [] false w args ∧ laidMetH Tryd.prog [("pilaster/widths.table", Rows.laid_pilaster_widths_table)] w) ∧ sizedMet enc Tryd.prog Tryd.f6 (OpenSpec.ofChange Rows.deltaBackSpec) false w args) (Rows.deltaBackSpec.post enc Tryd.prog Tryd.f6 false true false false) := by
  refine returnsInHanded_of_change_and (C := Tryd.checked) (X := fun w _ => laidMetH Tryd.prog [("pilaster/widths.table", Rows.laid_pilaster_widths_table)] w) (fun _ _ _ hh h => h.of_heap hh) own started (by kernel_rfl) Tryd.func6
    (ChangeSpec.witness_shaped (enc := enc) (C := Tryd.checked) (os := os) (X := fun w _ => laidMetH Tryd.prog [("pilaster/widths.table", Rows.laid_pilaster_widths_table)] w) false (World.doorLaid Tryd.prog 400 os) #[.int .i64 0, .slice none 0 0, .bool false] 8 rfl (World.shaped_of_RefB (by kernel_rfl) (by kernel_rfl)) (by kernel_rfl) (by kernel_rfl) (by kernel_rfl) (door_met os _)) ?_
  intro W base args ds gs before hval0 hW _ _ hL _
  have hT := tab_of hL
  clear hL
  have hval : ∀ (j : Nat) t v, Tryd.f6.params[j]? = some t → args[j]? = some v → Value.okWide Tryd.prog W .any base t v := hval0
  have hW' := hW
  obtain ⟨p, q, hT0, hV, rfl, hfz, hnd⟩ := hW
  have hA : DataW.TrodAll enc Tryd.prog W 0 (fun _ => true) true Tryd.f6.params.toList args.toList ds p := hT0
  rw [Tryd.params6] at hA hval
  obtain ⟨v0, vs0, d0, ds0, p0, q0, hargs, rfl, rfl, h0, r0⟩ := trodAll_cons hA
  obtain ⟨v1, vs1, d1, ds1, p1, q1, rfl, rfl, rfl, h1, r1⟩ := trodAll_cons r0
  obtain ⟨v2, vs2, d2, ds2, p2, q2, rfl, rfl, rfl, h2, r2⟩ := trodAll_cons r1
  obtain ⟨rfl, rfl, rfl⟩ := trodAll_nil r2
  obtain rfl : args = #[v0, v1, v2] := by cases args; simp_all
  obtain ⟨rfl, rfl⟩ := trodVars_none hV
  obtain ⟨a0, rfl, rfl, rfl, w0⟩ := open_int Tryd.underlying3 (hval 0 3 v0 rfl rfl) h0
  have hlt1 : ∀ x ∈ p1, x.block < W.heap.size := fun x hx => hW'.lt x (by simp [hx])
  obtain ⟨l1, hl1, hx1⟩ := open_intsv Tryd.underlying30 Tryd.underlying3 (by kernel_rfl) (hval 1 30 v1 rfl rfl) h1 hlt1
  obtain ⟨a2, rfl, rfl, rfl⟩ := open_bool Tryd.underlying4 (hval 2 4 v2 rfl rfl) h2
  clear hT0 hval0
  refine (DeltaBack_walk W hT a0 (wf_i64 w0).1 (wf_i64 w0).2 v1 l1 hl1 hx1 a2).mono fun e W' ⟨he, hb⟩ => ?_
  subst he
  exact ⟨_, rfl, law_post laidOut Tryd.underlying4 (by kernel_rfl) (by kernel_rfl) rfl hW' rfl hb⟩

theorem DeltaBack_over : Rows.deltaBackRow.holds Tryd.pinned (OpenSpec.ofChange Rows.deltaBackSpec) :=
  OpenClaim.holds_of_wide 6 Tryd.f6 rfl rfl rfl rfl rfl rfl rfl ⟨rfl, rfl, rfl, rfl, rfl⟩ rfl rfl rfl rfl rfl (by kernel_rfl) Tryd.func6 (by kernel_rfl)
    (of_decide_eq_true (by kernel_rfl)) (by unfold Func.isWrapper; first | (rw [if_pos (by decide +kernel)]; kernel_rfl) | (rw [if_neg (by decide +kernel)]; exact ⟨rfl, rfl⟩))
    (fun os started H enc _ => DeltaBack_lifted os started H enc)

theorem DeltaBack_holds : Rows.DeltaBackCardSaid :=
  Claim7.holds_tied_plain_at .later [] _ true _ _ DeltaBack_over (fun _ h => by cases h) (by kernel_rfl) (fun _ h => by cases h) deltaBack_row_tie rfl ⟨rfl, rfl⟩ (by kernel_rfl) rfl
    (fun f fn hf hfn => by
      obtain rfl : f = 6 := Option.some.inj ((show Tryd.prog.funcNamed "pilaster/pilasterlaw09.DeltaBack" = some 6 by kernel_rfl).symm.trans hf) |>.symm
      obtain rfl : fn = Tryd.f6 := (Option.some.inj (Tryd.func6.symm.trans hfn)).symm
      exact ⟨by kernel_rfl, fun j t ht => stand_ins (by kernel_rfl) ht⟩)
    (by kernel_rfl)
#print axioms DeltaBack_holds

end Go.Proofs.YtchgpgnipmmflaaDoor
