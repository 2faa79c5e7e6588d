/- Texts that the claims of this seat share, part 5: TUnp TGlue TPutO TIs PPlain PTPlain PRef PRPut PRTake PLow PBase. -/
import Derived.Laws.OwnMore
import Derived.Test.YtblpkmmhmdpkjaaGreatDoorDG4
/- delta's own contracts: unpack. -/





namespace Go.Proofs.YtblpkmmhmdpkjaaGreatDoor

open Go.RowKit

/-- What unpack answers: the sizes and the bytes behind, or none. -/
def RetUp (f : Bool) (o : Option (List Nat × List UInt8)) (w : World) (e : Ending) (w' : World) : Prop :=
  match o with
  | none => e = .returned (.tuple #[.slice none 0 0, .slice none 0 0, .bool false]) ∧ Below w.heap.size w w'
  | some p => ∃ u r, e = .returned (.tuple #[u, r, .bool true]) ∧ IsR dc (toward f p.1) u w' ∧ OwnB w p.2 r w' ∧ Below w.heap.size w w'
theorem reps_toward (m : Nat) (u : Nat) (f : Bool) : reps m (u, f) = (toward f (List.replicate m u)).flatMap dc := by unfold reps toward; rw [List.map_replicate]
theorem toward_len (f : Bool) (us : List Nat) : (toward f us).length = us.length := by unfold toward; rw [List.length_map]
set_option maxHeartbeats 4000000 in
set_option maxRecDepth 100000 in
theorem unpack_bad (A : Value) (C M d : Int) (w : World) (hd : inInt d) (hg : (gdiff 0 d).2.2 = false) :
    Calls Tryz.prog 156 #[A, .int .i64 C, .int .i64 M, .int .i64 d] w (RetUp (gdiff 0 d).2.1 none w) := by
  have HB := Lib.hid (between_any 0 d w (by unfold inInt; omega) hd)
  unfold RetBt at HB
  rw [hg] at HB
  obtain ⟨x, hx⟩ : ∃ x, x = dpair (gdiff 0 d) := ⟨_, rfl⟩
  rw [← hx] at HB
  obtain ⟨xu, xf⟩ := x
  unfold dv dc at HB
  dsimp only at HB
  clear hx hd hg
  go_enter Tryz.func156, Tryz.ntmps156
  go_wp2_with (go_at_call 178; refine HB.out.mono ?_; rintro e w1 ⟨rfl, hb1⟩)
  go_ret3
  exact ⟨rfl, hb1.alloc hb1.size _⟩
set_option maxHeartbeats 4000000 in
set_option maxRecDepth 100000 in
theorem unpack_zero (v : Value) (M : Nat) (d : Int) (u0 : Nat) (f : Bool) (w : World) (hM2 : 2 ≤ M) (hM : M ≤ 512) (hd : inInt d) (hx : gdiff 0 d = (u0, f, true)) :
    Calls Tryz.prog 156 #[v, .int .i64 0, .int .i64 (M : Int), .int .i64 d] w (fun e w' =>
      ∃ u, e = .returned (.tuple #[u, v, .bool true]) ∧ IsR dc (toward f (List.replicate (M - 1) u0)) u w' ∧ Below w.heap.size w w') := by
  have HB := Lib.hid (between_any 0 d w (by unfold inInt; omega) hd)
  unfold RetBt at HB
  rw [hx] at HB
  unfold dpair dv dc at HB
  dsimp only at HB
  clear hx hd
  obtain ⟨m, hm⟩ : ∃ m, M = m + 1 := ⟨M - 1, by omega⟩
  subst hm
  have e1 : m + 1 - 1 = m := by omega
  rw [e1]
  have hmi1 : IntKind.i64.wrap (((m + 1 : Nat) : Int) - 1) = (m : Int) := by rw [IntKind.wrap_i64]; omega
  have HRP := Lib.hid (fun w1 : World => repeat_any (u0, f) (w1.heap.size + 1) 1 m ((w1.alloc (.cells #[.int .u64 (u0 : Int), .bool f] 176)).alloc (.cells #[.int .u64 (u0 : Int), .bool f] 176)) (by
    have h := heap_alloc_new (w1.alloc (.cells #[.int .u64 (u0 : Int), .bool f] 176)) (.cells #[.int .u64 (u0 : Int), .bool f] 176)
    rw [show (w1.alloc (.cells #[.int .u64 (u0 : Int), .bool f] 176)).heap.size = w1.heap.size + 1 by simp] at h
    exact h) (by omega) (by omega))
  clear e1
  go_enter Tryz.func156, Tryz.ntmps156
  go_wp2_with fail
  refine HB.out.mono ?_
  rintro e w1 ⟨rfl, hb1⟩
  have HB2 := Lib.hid ((hb1.alloc hb1.size (.cells #[.int .u64 (u0 : Int), .bool f] 176)).alloc (by simp; have := hb1.size; omega) (.cells #[.int .u64 (u0 : Int), .bool f] 176))
  clear hb1
  go_wp2_with (go_at_call 184; refine (HRP.out w1).mono ?_)
  rintro e w2 ⟨g, rfl, hg, hr, hb2⟩
  rw [reps_toward] at hr
  have HI := Lib.hid (isR_row hr (by rw [toward_len, List.length_replicate]) (by omega))
  have HB3 := Lib.hid (below_then HB2.out hb2)
  clear hr hb2 hg
  go_wp2
  go_ret3
  exact ⟨_, rfl, HI.out, HB3.out⟩
/-- The row of differences, the first k sizes behind the first one laid. -/
def UnpRel9 (f : Bool) (u0 : Nat) (us : List Nat) (g : Nat) (w w3 : World) (i : Value) (wr : World) : Prop := ∃ k : Nat, k ≤ us.length ∧ i = .int .i64 (k : Int) ∧
  Row wr g 176 ((toward f (u0 :: us.take k)).flatMap dc ++ reps (us.length - k) (u0, f)) ∧ Below w.heap.size w wr ∧ w3.grownBy wr (some g)
theorem up_set {f : Bool} {u0 : Nat} {us : List Nat} {k : Nat} (h : k < us.length) : ((toward f (u0 :: us.take k)).flatMap dc ++ reps (us.length - k) (u0, f)).set ((k + 1) * 2) (.int .u64 (us[k] : Int)) =
    (toward f (u0 :: us.take (k + 1))).flatMap dc ++ reps (us.length - (k + 1)) (u0, f) := by
  have hl : ((toward f (u0 :: us.take k)).flatMap dc).length = (k + 1) * 2 := by rw [dflat_len, toward_len, List.length_cons, List.length_take]; congr 1; omega
  have hr : reps (us.length - k) (u0, f) = dc (u0, f) ++ reps (us.length - (k + 1)) (u0, f) := by
    rw [show us.length - k = 1 + (us.length - (k + 1)) by omega, reps_add]; rfl
  have ht : (toward f (u0 :: us.take (k + 1))).flatMap dc = (toward f (u0 :: us.take k)).flatMap dc ++ dc (us[k], f) := by
    rw [List.take_succ_eq_append_getElem h]
    unfold toward
    rw [← List.cons_append, List.map_append, List.flatMap_append]
    rfl
  rw [List.set_append_right _ _ (by omega), hl, Nat.sub_self, hr, ht, List.append_assoc]
  rfl
set_option maxHeartbeats 4000000 in
set_option maxRecDepth 100000 in
theorem unpack_more (r : List UInt8) (v : Value) (C M : Nat) (d : Int) (u0 : Nat) (f : Bool) (w : World) (ht : WTab w) (hv : IsB r v w) (hb : r.length ≤ 1000000) (hC1 : 1 ≤ C) (hC : C ≤ 31) (hM2 : 2 ≤ M) (hM : M ≤ 512) (hd : inInt d) (hx : gdiff 0 d = (u0, f, true)) :
    Calls Tryz.prog 156 #[v, .int .i64 (C : Int), .int .i64 (M : Int), .int .i64 d] w
      (RetUp f (if (unpacksAny r (M - 2 : Nat) (wof C)).2.2 = 0 then some (u0 :: (unpacksAny r (M - 2 : Nat) (wof C)).1, (unpacksAny r (M - 2 : Nat) (wof C)).2.1) else none) w) := by
  have HB := Lib.hid (between_any 0 d w (by unfold inInt; omega) hd)
  unfold RetBt at HB
  rw [hx] at HB
  unfold dpair dv dc at HB
  dsimp only at HB
  clear hx hd
  obtain ⟨m, hm⟩ : ∃ m, m = M - 2 := ⟨_, rfl⟩
  obtain ⟨p, hp⟩ : ∃ p, p = M - 1 := ⟨_, rfl⟩
  rw [← hm]
  have HPM := Lib.hid (show p = m + 1 by omega)
  have hmi1 : IntKind.i64.wrap ((M : Int) - 1) = (p : Int) := by rw [IntKind.wrap_i64]; omega
  have hmi2 : IntKind.i64.wrap ((M : Int) - 2) = (m : Int) := by rw [IntKind.wrap_i64]; omega
  have hmi3 : (M : Int) - 1 = (p : Int) := by omega
  have hmi4 : (M : Int) - 2 = (m : Int) := by omega
  have HRP := Lib.hid (fun w1 : World => repeat_any (u0, f) (w1.heap.size + 1) 1 p ((w1.alloc (.cells #[.int .u64 (u0 : Int), .bool f] 176)).alloc (.cells #[.int .u64 (u0 : Int), .bool f] 176)) (by
    have h := heap_alloc_new (w1.alloc (.cells #[.int .u64 (u0 : Int), .bool f] 176)) (.cells #[.int .u64 (u0 : Int), .bool f] 176)
    rw [show (w1.alloc (.cells #[.int .u64 (u0 : Int), .bool f] 176)).heap.size = w1.heap.size + 1 by simp] at h
    exact h) (by omega) (by omega))
  have HT := Lib.hid ht
  have HV := Lib.hid hv
  have hc0 : ((C : Int) == 0) = false := by simp; omega
  obtain ⟨W, hW⟩ : ∃ W, W = wof (C : Int) := ⟨_, rfl⟩
  have HOF := Lib.hid (fun W1 (h : WTab W1) => of_any (C : Int) W1 h (by omega) (by omega))
  rw [← hW] at HOF ⊢
  obtain ⟨us, q, y, hu⟩ : ∃ us q y, unpacksAny r (m : Int) W = (us, q, y) := ⟨_, _, _, rfl⟩
  have HUN := Lib.hid (fun W1 (h : IsB r v W1) => unpack_isO (m : Int) W h hb)
  rw [hu] at HUN ⊢
  unfold RetUO at HUN
  dsimp only at HUN ⊢
  have HUL := Lib.hid (show y = 0 → us.length = m from fun hy => by subst hy; exact (unpacksAny_len hu).1)
  obtain ⟨o, ho⟩ : ∃ o, o = (if y = 0 then some (u0 :: us, q) else none) := ⟨_, rfl⟩
  have HO := Lib.hid ho
  rw [← ho]
  clear ho hu hW ht hv hb hC1 hM2 hm hp
  go_enter Tryz.func156, Tryz.ntmps156
  go_wp2_with fail
  refine HB.out.mono ?_
  rintro e w1 ⟨rfl, hb1⟩
  have HB2 := Lib.hid ((hb1.alloc hb1.size (.cells #[.int .u64 (u0 : Int), .bool f] 176)).alloc (by simp; have := hb1.size; omega) (.cells #[.int .u64 (u0 : Int), .bool f] 176))
  clear hb1
  go_wp2_with (go_at_call 184; refine (HRP.out w1).mono ?_)
  rintro e w2 ⟨g, rfl, hg, hr, hb2⟩
  have HROW := Lib.hid hr
  have hgw := hr.lt
  have HB3 := Lib.hid (below_then HB2.out hb2)
  have hwg : w.heap.size ≤ g := Nat.le_trans HB2.out.size hg
  clear hr hb2 hg
  have HT2 := Lib.hid (HT.out.below HB3.out HT.out.lt)
  go_wp2_with (first | (go_at_call 145; refine (HOF.out _ HT2.out).mono ?_; rintro e w' ⟨rfl, rfl⟩) | (go_at_call 144; refine (HUN.out _ (HV.out.below HB3.out)).mono ?_))
  rintro e w3 ⟨su, sr, rfl, hsu, hsr, hb3⟩
  by_cases hy : y = 0
  · subst hy
    have HO1 : Hid (o = some (u0 :: us, q)) := Lib.hid (by rw [HO.out, if_pos rfl])
    have HUM := Lib.hid (HUL.out rfl)
    have hn := own_shape hsu
    obtain ⟨SB, sc, rfl, hs1, hs2, _, hs4, hs5⟩ := hn
    have HSU := Lib.hid hsu
    rw [HUM.out] at HSU
    have HSR := Lib.hid hsr
    have HB4 := Lib.hid (below_then HB3.out hb3)
    have HROW3 := Lib.hid (HROW.out.below hb3 hgw)
    have hgw3 := HROW3.out.lt
    rw [HUM.out]
    clear hsu hsr hs1 hs2 hs4 hs5
    have HS := Lib.hid (show UnpRel9 f u0 us g w w3 (.int .i64 0) w3 from ⟨0, Nat.zero_le _, rfl, by
      have h := HROW3.out
      rw [HPM.out, Nat.add_comm m 1, reps_add] at h
      rw [List.take_zero, HUM.out, Nat.sub_zero]
      exact h, HB4.out, World.grownBy.refl _ _⟩)
    clear hb3
    go_wp2
    go_loopw [49] (UnpRel9 f u0 us g w w3) (fun i _ => m - (intOf i).toNat)
    case atStart => exact HS.out
    case round =>
      obtain ⟨k, hk, rfl, hrow, hbw, hgr⟩ := hrel
      have HRW := Lib.hid hrow
      have HBW := Lib.hid hbw
      have HGR := Lib.hid hgr
      have hkm : k ≤ m := by have := HUM.out; omega
      have hgwr := hrow.lt
      clear hrow hbw hgr hk
      by_cases hlt : k < m
      · have hkl : k < us.length := by have := HUM.out; omega
        have hlti : (k : Int) < (m : Int) := by omega
        have hkp : (k : Int) + 1 < (p : Int) := by have := HPM.out; omega
        have hV : IsV uv us (.slice SB m sc) wr := isV_own (own_past HSU.out HGR.out hgw)
        obtain ⟨ad, rfl, had, hcell⟩ := hV.at hkl
        obtain ⟨u, hue⟩ : ∃ u, u = us[k] := ⟨_, rfl⟩
        rw [← hue] at hcell
        unfold uv at hcell
        have hset := HRW.out.set_ ((k + 1) * 2) (.int .u64 (us[k] : Int))
        rw [up_set hkl, ← hue] at hset
        have HSET := Lib.hid hset
        have hfx := HRW.out.free ((k + 1) * 2)
        have hcu : ∃ u, wr.cell? ⟨g, (k + 1) * 2, none⟩ = some u := by
          rw [HRW.out.cell]
          exact ⟨_, List.getElem?_eq_getElem (by rw [List.length_append, dflat_len, toward_len, List.length_cons, List.length_take, reps_len]; omega)⟩
        obtain ⟨c0, hcu⟩ := hcu
        have HBS := Lib.hid (HBW.out.setCell (p := ⟨g, (k + 1) * 2, none⟩) hwg (.int .u64 (u : Int)))
        have HGS := Lib.hid (HGR.out.trans (grown_set wr g ((k + 1) * 2) (.int .u64 (u : Int))))
        clear hset hV hue
        go_wp2
        go_roundw
        case rel => exact ⟨k + 1, hkl, by go_num, HSET.out, HBS.out, HGS.out⟩
        case measure => simp [intOf]; omega
      · obtain rfl : k = m := by omega
        have hr := HRW.out
        rw [HUM.out, Nat.sub_self, List.take_of_length_le (by rw [HUM.out]; exact Nat.le_refl _), show reps 0 (u0, f) = [] from rfl, List.append_nil] at hr
        have HI := Lib.hid (isR_row hr (show (toward f (u0 :: us)).length = p by rw [toward_len, List.length_cons, HUM.out, HPM.out]) (by have := HPM.out; omega))
        obtain ⟨nq, hq⟩ := HSR.out
        have HQ := Lib.hid (show OwnB w q sr wr from ⟨nq, own_base (Nat.le_trans HB3.out.size (Nat.le_refl _)) (own_past hq HGR.out hgw)⟩)
        clear hr hq
        go_wp2
        go_ret3
        rw [HO1.out]
        exact ⟨_, _, rfl, HI.out, HQ.out, HBW.out⟩
  · have hy2 : (y != 0) = true := by simpa using hy
    have HO1 : Hid (o = none) := Lib.hid (by rw [HO.out, if_neg hy])
    have HB4 := Lib.hid (below_then HB3.out hb3)
    clear hsu hsr hb3 hy
    go_wp2
    go_ret3
    rw [HO1.out]
    exact ⟨rfl, HB4.out⟩
end Go.Proofs.YtblpkmmhmdpkjaaGreatDoor

/- What delta's Put does, as plain mathematics: its differences against the sizes of XTPlain. -/





namespace Go.Proofs.YtblpkmmhmdpkjaaGreatDoor

open Go.RowKit

theorem gdiff_ok {a b : Int} (h : (gdiff a b).2.2 = true) : (gdiff a b).2.1 = decide (b < a) ∧ ((gdiff a b).1 = 0 → (gdiff a b).2.1 = false) := by
  rcases gdiff_cases a b with ⟨k, _⟩ | ⟨k1, k2, k⟩ | ⟨k1, k2, k⟩
  · rw [k] at h; cases h
  · rw [k]; exact ⟨(decide_eq_true k1).symm, fun h => by dsimp only at h; omega⟩
  · rw [k]; exact ⟨(decide_eq_false (by omega)).symm, fun _ => rfl⟩
theorem dplain_neg {l : List Int} {x : Int} (hx : x ∈ l) (h : x < 0) : dplain l false = none := omap_none hx (by unfold eplain; rw [if_neg (by decide), if_neg (by omega)])
theorem dplain_some {l : List Int} {s : Bool} (h : s = true ∨ ∀ x ∈ l, 0 ≤ x) : dplain l s ≠ none := by
  unfold dplain
  induction l with
  | nil => simp [omap]
  | cons x l ih =>
    have h1 : ∃ u, eplain x s = some u := by
      unfold eplain
      rcases h with h | h
      · rw [if_pos h]; exact ⟨_, rfl⟩
      · have := h x List.mem_cons_self
        split
        · exact ⟨_, rfl⟩
        · first | exact ⟨_, rfl⟩ | (rw [if_pos this]; exact ⟨_, rfl⟩)
    obtain ⟨u, hu⟩ := h1
    have h2 := ih (h.imp id fun h y hy => h y (List.mem_cons_of_mem _ hy))
    rw [omap, hu]
    dsimp only
    cases hr : omap (eplain · s) l with
    | none => exact absurd hr h2
    | some r => simp
theorem omap_every {α β : Type} {f : α → Option β} {g : α → β} : ∀ {l : List α}, (∀ x ∈ l, f x = some (g x)) → omap f l = some (l.map g)
  | [], _ => rfl
  | x :: l, h => by
    rw [omap, h x List.mem_cons_self, omap_every fun y hy => h y (List.mem_cons_of_mem _ hy)]
    rfl
section

variable {l : List Int} {k : Nat}
theorem gat_bad {f : Bool} {i : Nat} (h : (diffAt l i).2.2 = false) : gat l f i = none := gone_not (by unfold diffAt at h; rw [h]; simp)
theorem gpairs_get (i : Nat) (h : i < k) : (gpairs l k)[i]? = some (dpair (diffAt l i)) := by
  unfold gpairs
  rw [List.getElem?_map, List.getElem?_range h]
  rfl
theorem gpairs_mem {d : Nat × Bool} (h : d ∈ gpairs l k) : ∃ i, i < k ∧ d = dpair (diffAt l i) := by
  obtain ⟨i, hi, rfl⟩ := List.mem_map.1 h
  exact ⟨i, List.mem_range.1 hi, rfl⟩
theorem gpairs_head (h : 0 < k) : (gpairs l k).headD (0, false) = dpair (diffAt l 0) := by
  have h1 := gpairs_get (l := l) 0 h
  cases hg : gpairs l k with
  | nil => rw [hg] at h1; cases h1
  | cons a t => rw [hg] at h1; injection h1
/-- All are differences, and go one way: these are the sizes. -/
theorem gsizes_way (hk : 0 < k) (hok : ∀ i, i < k → (diffAt l i).2.2 = true) (hw : dway (gpairs l k) = true) : gsizes l (gfalls l) k = some (sizesOf (gpairs l k)) := by
  unfold gsizes sizesOf gpairs
  rw [List.map_map]
  refine omap_every fun i hi => ?_
  have hi := List.mem_range.1 hi
  have h0 := gdiff_ok (hok 0 hk)
  have hf : gfalls l = (diffAt l 0).2.1 := h0.1.symm
  unfold dway at hw
  rw [gpairs_head hk] at hw
  have h1 : dturns (dpair (diffAt l 0)).2 (dpair (diffAt l i)) = false := by
    have h2 : ((gpairs l k).any (dturns (dpair (diffAt l 0)).2)) = false := by simpa using hw
    rw [List.any_eq_false] at h2
    have h3 := h2 _ (List.mem_of_getElem? (gpairs_get (l := l) i hi))
    simpa using h3
  refine gone_yes (hok i hi) ?_
  rw [hf]
  unfold dturns dpair at h1
  dsimp only at h1
  by_cases hz : (diffAt l i).1 = 0
  · exact .inl hz
  · right
    have h4 : ((diffAt l i).1 != 0) = true := by simpa using hz
    rw [h4, Bool.true_and] at h1
    show (diffAt l i).2.1 = (diffAt l 0).2.1
    simpa using h1
/-- One goes another way: these are no sizes. -/
theorem gsizes_turn (hk : 0 < k) (hok : ∀ i, i < k → (diffAt l i).2.2 = true) (hw : dway (gpairs l k) = false) : gsizes l (gfalls l) k = none := by
  unfold dway at hw
  rw [gpairs_head hk] at hw
  have h2 : ((gpairs l k).any (dturns (dpair (diffAt l 0)).2)) = true := by simpa using hw
  obtain ⟨d, hd, ht⟩ := List.any_eq_true.1 h2
  obtain ⟨i, hi, rfl⟩ := gpairs_mem hd
  have hf : gfalls l = (diffAt l 0).2.1 := (gdiff_ok (hok 0 hk)).1.symm
  refine gsizes_none hi (gone_not ?_)
  rw [hf]
  unfold dturns dpair at ht
  dsimp only at ht
  rw [Bool.and_eq_true] at ht
  rintro ⟨_, h | h⟩
  · unfold diffAt at ht; rw [h] at ht; simp at ht
  · unfold diffAt at ht; rw [h] at ht; unfold diffAt at ht; simp at ht
/-- All differences are the same just where all sizes are. -/
theorem dsame_all (hk : 0 < k) (hok : ∀ i, i < k → (diffAt l i).2.2 = true) (hw : dway (gpairs l k) = true) : dsame (gpairs l k) = gall (sizesOf (gpairs l k)) := by
  have hhead := gpairs_head (l := l) hk
  have hs : (sizesOf (gpairs l k)).headD 0 = ((gpairs l k).headD (0, false)).1 := by unfold sizesOf; cases gpairs l k <;> rfl
  unfold dsame gall
  rw [hs]
  unfold sizesOf
  rw [List.all_map]
  rw [Bool.eq_iff_iff, List.all_eq_true, List.all_eq_true]
  constructor
  · intro h d hd
    have h1 : d = (gpairs l k).headD (0, false) := by simpa using h d hd
    show ((d.1 == ((gpairs l k).headD (0, false)).1)) = true
    rw [← h1]; simp
  · intro h d hd
    have h1 : d.1 = ((gpairs l k).headD (0, false)).1 := by have := h d hd; simpa using this
    have h2 : d.2 = ((gpairs l k).headD (0, false)).2 := by
      by_cases hz : d.1 = 0
      · have ha : ∀ e ∈ gpairs l k, e.1 = 0 → e.2 = false := by
          intro e he h0
          obtain ⟨i, hi, rfl⟩ := gpairs_mem he
          exact (gdiff_ok (hok i hi)).2 h0
        rw [ha d hd hz]
        have hm : (gpairs l k).headD (0, false) ∈ gpairs l k := by rw [hhead]; exact List.mem_of_getElem? (gpairs_get (l := l) 0 hk)
        exact (ha _ hm (by rw [← h1]; exact hz)).symm
      · unfold dway at hw
        have h3 : ((gpairs l k).any (dturns ((gpairs l k).headD (0, false)).2)) = false := by simpa using hw
        rw [List.any_eq_false] at h3
        have h4 := h3 d hd
        unfold dturns at h4
        have h5 : (d.1 != 0) = true := by simpa using hz
        rw [h5, Bool.true_and] at h4
        simpa using h4
    have h3 : d = (gpairs l k).headD (0, false) := Prod.ext h1 h2
    rw [← h3]; simp
theorem sizes_lt : ∀ d ∈ gpairs l k, d.1 < 2 ^ 63 := by
  intro d hd
  obtain ⟨i, _, rfl⟩ := gpairs_mem hd
  have := gdiff_lt (l.getD i 0) (l.getD (i + 1) 0)
  show (gdiff (l.getD i 0) (l.getD (i + 1) 0)).1 < 9223372036854775808
  omega
theorem first_step (hk : 0 < k) (hok : ∀ i, i < k → (diffAt l i).2.2 = true) : gstep 0 (diffAt l 0).1 (diffAt l 0).2.1 = (gfirst l (sizesOf (gpairs l k)), true) := by
  have hs : (sizesOf (gpairs l k)).headD 0 = (diffAt l 0).1 := by
    have h := gpairs_head (l := l) hk
    have h2 : (sizesOf (gpairs l k)).headD 0 = ((gpairs l k).headD (0, false)).1 := by unfold sizesOf; cases gpairs l k <;> rfl
    rw [h2, h]; rfl
  have hf : gfalls l = (diffAt l 0).2.1 := (gdiff_ok (hok 0 hk)).1.symm
  have hlt := gdiff_lt (l.getD 0 0) (l.getD (0 + 1) 0)
  unfold gfirst
  rw [hs, hf]
  unfold gstep
  rw [if_neg (by unfold diffAt; omega)]
  cases hb : (diffAt l 0).2.1 with
  | true =>
    simp only [if_true]
    rw [if_neg (by unfold diffAt; omega)]; congr 1; omega
  | false =>
    simp only [Bool.false_eq_true, if_false]
    rw [if_neg (by unfold diffAt; omega)]; congr 1; omega
theorem sizes_tail : sizesOf (gpairs l k).tail = (sizesOf (gpairs l k)).tail := by unfold sizesOf; rw [List.map_tail]
end

end Go.Proofs.YtblpkmmhmdpkjaaGreatDoor

/- delta's own contracts: Put. -/



namespace Go.Proofs.YtblpkmmhmdpkjaaGreatDoor

open Go.RowKit

theorem gtail_same {us : List Nat} (h : gall us = true) : gtail us = [] ∧ gnum us = 0 := ⟨by unfold gtail; rw [if_pos h], by unfold gnum; rw [if_pos h]⟩
theorem gtail_more {us : List Nat} (h : gall us = false) : gtail us = bpack us.tail (gwide us.tail) ∧ gnum us = gcode us.tail := by
  have h2 : ¬ gall us = true := by rw [h]; decide
  exact ⟨by unfold gtail; rw [if_neg h2], by unfold gnum; rw [if_neg h2]⟩
/-- pack, of differences that go one way. -/
theorem tpack_any (l : List Int) (m : Nat) (v : Value) (w : World) (ht : WTab w) (hd : IsR dc (gpairs l m) v w) (h1 : 1 ≤ m) (h5 : m ≤ 511) (hs : dsame (gpairs l m) = gall (sizesOf (gpairs l m))) :
    Calls Tryz.prog 151 #[v] w (RetPk w (gnum (sizesOf (gpairs l m))) (gtail (sizesOf (gpairs l m)))) := by
  cases h : gall (sizesOf (gpairs l m)) with
  | true =>
    rw [(gtail_same h).1, (gtail_same h).2]
    exact pack_same _ v w hd (by rw [gpairs_len]; omega) (by rw [hs, h])
  | false =>
    rw [(gtail_more h).1, (gtail_more h).2, ← sizes_tail]
    exact pack_more _ v w ht hd (by rw [gpairs_len]; omega) (by rw [gpairs_len]; omega) (by rw [hs, h]) sizes_lt
theorem gnum_le {us : List Nat} (h : ∀ u ∈ us, u < 2 ^ 64) : gnum us ≤ 31 := by
  unfold gnum
  split
  · omega
  · exact (gwide_int fun u hu => h u (List.mem_of_mem_tail hu)).2.2.2.2.2.2.1
/-- A tail is short. -/
theorem gtail_short {us : List Nat} (hl : us.length ≤ 512) (h : ∀ u ∈ us, u < 2 ^ 64) : (gtail us).length ≤ 5000 := by
  unfold gtail
  split
  · simp
  · rw [bpack_len]
    have h1 : (us.tail).length ≤ 512 := by rw [List.length_tail]; omega
    have h2 := (gwide_int fun u hu => h u (List.mem_of_mem_tail hu)).2.2.2.2.1
    exact Nat.le_trans (bsize_small h1 h2) (by omega)
set_option maxHeartbeats 8000000 in
set_option maxRecDepth 100000 in
theorem tput_own (l : List Int) (v : Value) (s : Bool) (w : World) (ht : WTab w) (hv : IsV iv l v w) (hl : ∀ x ∈ l, inInt x) (hb : l.length ≤ 1000000) : Calls Tryz.prog 126 #[v, .bool s] w (RetEO w (gputE l s)) := by
  obtain ⟨A, n, c, rfl⟩ := hv.shape
  have hn := hv.len
  by_cases h2 : n < 2 ∨ 512 < n
  · have hE := Lib.hid (gputE_no (s := s) (.inr (by rw [← hn]; exact h2) : dplain l s = none ∨ l.length < 2 ∨ 512 < l.length))
    have HC := Lib.hid (tcount_no (n : Int) w (by omega))
    clear hv hl hb hn h2 ht
    go_enter Tryz.func126, Tryz.ntmps126
    go_wp2_with (go_at_call 147; refine HC.out.mono ?_; rintro e w' ⟨rfl, rfl⟩)
    go_ret2
    rw [hE.out]
    exact RetEO.nil _ (Below.refl _ _)
  · have HN := Lib.hid hn
    have HV := Lib.hid hv
    have HT := Lib.hid ht
    have HL := Lib.hid hl
    have HC := Lib.hid (tcount_yes (n : Int) w (by omega) (by omega))
    have hn2 : 2 ≤ n := by omega
    have hn5 : n ≤ 512 := by omega
    obtain ⟨m, hm⟩ : ∃ m, m = n - 1 := ⟨_, rfl⟩
    have HM := Lib.hid (show l.length - 1 = m by omega)
    have hm1 : 1 ≤ m := by omega
    have hm5 : m ≤ 511 := by omega
    have HL0 := Lib.hid (show inInt (l.headD 0) by
      cases l with
      | nil => unfold inInt; simp
      | cons a t => exact hl a List.mem_cons_self)
    have hne : l ≠ [] := by rintro rfl; simp at hn; omega
    have HMIN := Lib.hid (min_any l (.slice A n c) w hv (by omega) hb)
    have HNEG := Lib.hid (lmin_neg hne)
    obtain ⟨mn, hmn⟩ : ∃ mn, mn = lmin l := ⟨_, rfl⟩
    rw [← hmn] at HMIN HNEG
    have HDF := Lib.hid (diffs_any l (.slice A n c) w hv hl (by omega) hb)
    clear hv ht hl hb h2 hn hne hmn hm
    cases s with
    | true =>
      have HPL := Lib.hid (dplain_some (l := l) (s := true) (.inl rfl))
      go_enter Tryz.func126, Tryz.ntmps126
      go_wp2_with (first | (go_at_call 147; refine HC.out.mono ?_; rintro e w' ⟨rfl, rfl⟩) | (go_at_call 148; refine HMIN.out.mono ?_; rintro e w' ⟨rfl, rfl⟩) | (go_at_call 149; refine HDF.out.mono ?_))
      rintro e w1 (⟨hok, dv1, rfl, hd1, hb1⟩ | ⟨⟨i, hi, hbad⟩, rfl, hb1⟩)
      · have HOK := Lib.hid (show ∀ i, i < m → (diffAt l i).2.2 = true from fun i hi => hok i (by have := HN.out; have := HM.out; omega))
        rw [HM.out] at hd1
        obtain ⟨DA, dn, dcap, rfl⟩ := hd1.shape
        have hdn : dn = m := by have := hd1.parts.1; rw [gpairs_len] at this; omega
        subst hdn
        have HD1 := Lib.hid hd1
        have HB1 := Lib.hid hb1
        have HT1 := Lib.hid (HT.out.below hb1 HT.out.lt)
        have HWAY := Lib.hid (way_any (gpairs l dn) (.slice DA dn dcap) w1 hd1 (by rw [gpairs_len]; exact hm1) (by rw [gpairs_len]; omega))
        clear hok hd1 hb1
        cases hway : dway (gpairs l dn) with
        | false =>
          have hE := Lib.hid (gputE_none (s := true) (show gsizes l (gfalls l) (l.length - 1) = none by rw [HM.out]; exact gsizes_turn hm1 HOK.out hway))
          rw [hway] at HWAY
          clear hway
          go_wp2_with (go_at_call 150; refine HWAY.out.mono ?_; rintro e w2 ⟨rfl, hb2⟩)
          go_ret2
          rw [hE.out]
          exact RetEO.nil _ (below_then HB1.out hb2)
        | true =>
          have HSZ := Lib.hid (gsizes_way hm1 HOK.out hway)
          have HSM := Lib.hid (dsame_all hm1 HOK.out hway)
          have hst := first_step hm1 HOK.out
          have hE := gputE_some (s := true) HPL.out (by have := HN.out; omega) (by have := HN.out; omega) (show gsizes l (gfalls l) (l.length - 1) = some (sizesOf (gpairs l dn)) by rw [HM.out]; exact HSZ.out)
          have hfi := (gfirst_diff (l := l) (us := sizesOf (gpairs l dn)) (by have := HN.out; omega) (by rw [HM.out]; exact HSZ.out)).2
          have h64 := gsizes_64 HSZ.out
          have HPK := Lib.hid (fun (w : World) ht hd => tpack_any l dn (.slice DA dn dcap) w ht hd hm1 (by omega) HSM.out)
          have hgn := gnum_le h64
          have HTB := Lib.hid (gtail_short (us := sizesOf (gpairs l dn)) (by rw [show (sizesOf (gpairs l dn)).length = dn by unfold sizesOf; rw [List.length_map, gpairs_len]]; omega) h64)
          unfold glay at hE
          obtain ⟨us, hus⟩ : ∃ us, us = sizesOf (gpairs l dn) := ⟨_, rfl⟩
          rw [← hus] at hE hst hfi HPK hgn HTB
          obtain ⟨G, hG⟩ : ∃ G, G = gnum us := ⟨_, rfl⟩
          obtain ⟨tl, htl⟩ : ∃ tl, tl = gtail us := ⟨_, rfl⟩
          obtain ⟨x1, hx1⟩ : ∃ x1, x1 = gfirst l us := ⟨_, rfl⟩
          obtain ⟨x0, hx0⟩ : ∃ x0, x0 = l.headD 0 := ⟨_, rfl⟩
          rw [← hG, ← htl, ← hx1, ← hx0, ← HN.out] at hE
          rw [← hG, ← htl] at HPK
          rw [← hG] at hgn
          rw [← htl] at HTB
          rw [← hx1] at hst hfi
          obtain ⟨u0, f0, ok0, hd0⟩ : ∃ u0 f0 ok0, diffAt l 0 = (u0, f0, ok0) := ⟨_, _, _, rfl⟩
          have hu0 : (u0 : Int) < 18446744073709551616 := by have h := gdiff_lt (l.getD 0 0) (l.getD (0 + 1) 0); unfold diffAt at hd0; rw [hd0] at h; dsimp only at h; omega
          rw [hd0] at hst
          have HSP := Lib.hid (fun (w : World) => step_any 0 u0 f0 w (by unfold inInt; omega) hu0)
          rw [hst] at HSP
          unfold RetG at HSP
          have HE2 := Lib.hid hE
          have HX1 := Lib.hid hfi
          have HG31 := Lib.hid hgn
          have HX0 := Lib.hid (show inInt x0 by rw [hx0]; exact HL0.out)
          have HC0 := Lib.hid (show ∀ W, Below w.heap.size w W → ∃ ad, A = some ad ∧ ad.block < W.heap.size ∧ W.cell? (ad.add 0) = some (.int .i64 x0) from fun W hW => by
            obtain ⟨ad, e1, e2, e3⟩ := (HV.out.below hW).at (k := 0) (by have := HN.out; omega)
            refine ⟨ad, e1, e2, ?_⟩
            rw [e3, hx0]
            cases l with
            | nil => have := HN.out; simp at this; omega
            | cons a t => rfl)
          have HDC := Lib.hid (show ∀ W, IsR dc (gpairs l dn) (.slice DA dn dcap) W → ∃ ad, DA = some ad ∧ ad.block < W.heap.size ∧ W.cell? ad = some (.int .u64 (u0 : Int)) ∧ W.cell? ⟨ad.block, ad.off + 1, none⟩ = some (.bool f0) from fun W hW => by
            obtain ⟨ad, e1, e2, e3⟩ := hW.at (m := 2) dc_len (by omega) (k := 0) (by rw [gpairs_len]; exact hm1)
            have e4 : (gpairs l dn)[0]? = some (u0, f0) := by rw [gpairs_get 0 hm1, hd0]; rfl
            rw [List.getElem?_eq_getElem (by rw [gpairs_len]; exact hm1)] at e4
            injection e4 with e4
            rw [e4] at e3
            have k0 := cells2 e3
            rw [Nat.zero_mul] at k0
            have ha0 : ad.add 0 = ad := by simp [Addr.add]
            rw [ha0] at k0
            exact ⟨ad, e1, e2, k0.1, k0.2⟩)
          rw [hway] at HWAY
          clear hway hE hst hfi h64 hgn hus hG htl hx1 hx0 hd0 hu0
          go_wp2_with fail
          refine HWAY.out.mono ?_
          rintro e w2 ⟨rfl, hb2⟩
          have HB2 := Lib.hid (below_then HB1.out hb2)
          have HT2 := Lib.hid (HT1.out.below hb2 HT1.out.lt)
          have HD2 := Lib.hid (HD1.out.below hb2)
          clear hb2
          go_wp2_with fail
          refine (HPK.out w2 HT2.out HD2.out).mono ?_
          rintro e w3 ⟨pv, rfl, hp3, hb3⟩
          have HB3 := Lib.hid (below_then HB2.out hb3)
          have HT3 := Lib.hid (HT2.out.below hb3 HT2.out.lt)
          have HP3 := Lib.hid hp3
          obtain ⟨da, rfl, hda, hdc1, hdc2⟩ := HDC.out w3 (HD2.out.below hb3)
          clear hb3 hp3
          have ha0 : da.add 0 = da := by simp [Addr.add]
          go_wp2_with fail
          refine (HSP.out w3).mono ?_
          rintro e w4 ⟨rfl, hb4⟩
          have HB4 := Lib.hid (below_then HB3.out hb4)
          have HT4 := Lib.hid (HT3.out.below hb4 HT3.out.lt)
          have HP4 := Lib.hid (IsB.below HP3.out hb4)
          clear hb4 hdc1 hdc2 hda ha0
          go_wp2
          obtain ⟨ad, rfl, had, _⟩ := HC0.out w4 HB4.out
          refine wp_region_list [.is (.int .i64 (G : Int)), .is (.slice (some ad) n c), .is (.int .i64 (n : Int)), .bytes (dheadN 3 G n), .is (.slice (some ad) n c), .is (.pointer (some (ad.add 0))), .is (.int .i64 x0), .is (.bool true), .bytes (dheadN 3 G n ++ vput (vint x0 true)), .bytes (dheadN 3 G n ++ vput (vint x0 true))] [some 55, some 56, some 57, some 58, some 59, some 60, some 61, some 62, some 63, some 13] (by kernel_rfl) (by kernel_rfl) (by kernel_rfl) rfl ⟨?_, ?_, ?_, ?_, ?_, ?_, ?_, ?_, ?_, ?_, trivial⟩ ?_
          · intro ρ W1 hb1 H
            exact gives_move rfl (H.old 8 _ (by kernel_rfl) rfl) ⟨rfl, Below.refl _ _⟩
          · intro ρ W1 hb1 H
            exact gives_move rfl (H.old 0 _ (by kernel_rfl) rfl) ⟨rfl, Below.refl _ _⟩
          · intro ρ W1 hb1 H
            exact gives_len Tryz.underlying47 rfl (H.new 56 1 (by kernel_rfl)) ⟨rfl, Below.refl _ _⟩
          · intro ρ W1 hb1 H
            have e0 : ρ (.tmp 55) = .int .i64 (G : Int) := H.new 55 0 (by kernel_rfl)
            have e1 : ρ (.tmp 57) = .int .i64 (n : Int) := H.new 57 2 (by kernel_rfl)
            refine gives_call rfl (fun _ _ => by kernel_rfl) (H.func _) (args := #[.int .i64 3, .int .i64 (G : Int), .int .i64 (n : Int)]) (by simp [e0, e1, H.const]) ?_
            have hG := HG31.out
            refine (dhead_any 3 (G : Int) (n : Int) W1 (HT4.out.below hb1 HT4.out.lt) (by unfold inInt; omega) (by unfold inInt; omega) (by unfold inInt; omega)).mono ?_
            rintro e w' ⟨u, h1, h2, h3⟩
            rw [show ((3 : Int)) = ((3 : Nat) : Int) from rfl, dhead_in (by omega) hG (by omega) (by omega)] at h2
            exact ⟨_, h1, h2, h3⟩
          · intro ρ W1 hb1 H
            exact gives_move rfl (H.old 0 _ (by kernel_rfl) rfl) ⟨rfl, Below.refl _ _⟩
          · intro ρ W1 hb1 H
            exact gives_index (k := 0) elemI rfl (H.new 59 4 (by kernel_rfl)) (H.const _) (by omega) ⟨rfl, Below.refl _ _⟩
          · intro ρ W1 hb1 H
            obtain ⟨ad', e1, _, e2⟩ := HC0.out W1 (below_then HB4.out hb1)
            injection e1 with e1
            subst e1
            exact gives_load rfl (H.new 60 5 (by kernel_rfl)) Tryz.underlying3 rfl e2 ⟨rfl, Below.refl _ _⟩
          · intro ρ W1 hb1 H
            exact gives_move rfl (H.old 1 _ (by kernel_rfl) rfl) ⟨rfl, Below.refl _ _⟩
          · intro ρ W1 hb1 H
            have e0 : IsB (dheadN 3 G n) (ρ (.tmp 58)) W1 := H.new 58 3 (by kernel_rfl)
            have e1 : ρ (.tmp 61) = .int .i64 x0 := H.new 61 6 (by kernel_rfl)
            have e2 : ρ (.tmp 62) = .bool true := H.new 62 7 (by kernel_rfl)
            obtain ⟨hv, hhv⟩ : ∃ hv, hv = ρ (.tmp 58) := ⟨_, rfl⟩
            rw [← hhv] at e0
            refine gives_call rfl (fun _ _ => by kernel_rfl) (H.func _) (args := #[hv, .int .i64 x0, .bool true]) (by simp [hhv, e1, e2]) ?_
            exact (putInt_isB x0 true e0 (by rw [dheadN_len]; omega) HX0.out.1 HX0.out.2).mono fun e w' ⟨u, h1, h2, h3⟩ => ⟨_, h1, h2, h3⟩
          · intro ρ W1 hb1 H
            exact gives_assign rfl rfl ⟨H.new 63 8 (by kernel_rfl), Below.refl _ _⟩
          · intro vs W1 hb1 hfs
            have f9 : IsB (dheadN 3 G n ++ vput (vint x0 true)) (vs 9) W1 := hfs 9 (by decide)
            clear hfs
            simp only [putAll, Nat.zero_add, Nat.reduceAdd]
            generalize vs 0 = z0
            generalize vs 1 = z1
            generalize vs 2 = z2
            generalize vs 3 = z3
            generalize vs 4 = z4
            generalize vs 5 = z5
            generalize vs 6 = z6
            generalize vs 7 = z7
            generalize vs 8 = z8
            generalize vs 9 = z9 at f9 ⊢
            simp only [Act.put, List.setIfInBounds_toArray, List.set_cons_succ, List.set_cons_zero]
            have HO := Lib.hid f9
            have HBa := Lib.hid (below_then HB4.out hb1)
            have HP5 := Lib.hid (IsB.below HP4.out hb1)
            have HLN := Lib.hid (show (dheadN 3 G n ++ vput (vint x0 true)).length ≤ 1000 by rw [List.length_append, dheadN_len]; have := vput_len_10 (x := vint x0 true) (vint_64 HX0.out); omega)
            clear f9 hb1
            go_wp2_with fail
            refine (putInt_isO x1 true HO.out (by have := HLN.out; omega) HX1.out.1 HX1.out.2).mono ?_
            rintro e w6 ⟨v6, rfl, hown6, hb6⟩
            have hp6 := IsB.below HP5.out hb6
            obtain ⟨A7, n7, c7, rfl⟩ := IsV.shape (f := bv) hp6
            obtain ⟨hn7, hA7, -, -, hl7⟩ := IsV.parts (f := bv) (show IsV bv _ _ _ from hp6)
            have hM7 : (tl.map bv).length = n7 := by rw [List.length_map]; exact hn7
            have hn7b : n7 ≤ 5000 := by rw [← hn7]; exact HTB.out
            have HM7 := Lib.hid hM7
            have hzz6 := hb6.size
            obtain ⟨K6, hK6⟩ : ∃ K, K = (dheadN 3 G n ++ vput (vint x0 true) ++ vput (vint x1 true)).length := ⟨_, rfl⟩
            have hK6b : K6 ≤ 2000 := by rw [hK6, List.length_append]; have := vput_len_10 (x := vint x1 true) (vint_64 HX1.out); have := HLN.out; omega
            rw [← hK6] at hown6
            have HK6 := Lib.hid hK6
            obtain ⟨xs6, hx6⟩ : ∃ xs, xs = (dheadN 3 G n ++ vput (vint x0 true) ++ vput (vint x1 true)).map bv := ⟨_, rfl⟩
            rw [← hx6] at hown6
            have HX6 := Lib.hid hx6
            clear hp6 hM7 hn7 hK6 hx6
            go_wp2_with (at_builtin; refine wpList_join elemB rfl _ _ rfl W1.heap.size _ _ _ _ _ _ (tl.map bv) W1 rfl rfl hA7 HM7.out hl7 (bv_one _) hown6 hb6 hzz6 (by omega) (by omega) ?_)
            intro v8 w8 hown8 hb8 _ _
            have HI9 := Lib.hid (show w8.ownsRow w.heap.size 5 1 v8 (dheadN 3 G n ++ vput (vint x0 true) ++ vput (vint x1 true) ++ tl).length ((dheadN 3 G n ++ vput (vint x0 true) ++ vput (vint x1 true) ++ tl).map bv) by
              rw [List.map_append, ← HX6.out, List.length_append, ← HK6.out, show tl.length = n7 by have := HM7.out; rwa [List.length_map] at this]
              exact own_base HBa.out.size hown8)
            have HB9 := Lib.hid (below_then HBa.out hb8)
            clear hown8 hb8 hown6 hzz6
            go_wp2
            go_ret2
            rw [HE2.out]
            exact ⟨_, rfl, HI9.out, HB9.out⟩
      · have hE := Lib.hid (gputE_none (s := true) (show gsizes l (gfalls l) (l.length - 1) = none from gsizes_none (k := i) (by omega) (gat_bad hbad)))
        clear hi hbad
        go_wp2
        go_ret2
        rw [hE.out]
        exact RetEO.nil _ hb1
    | false =>
      by_cases h0 : mn < 0
      · have d0 : decide (mn < 0) = true := decide_eq_true h0
        have hE := Lib.hid (gputE_no (l := l) (s := false) (.inl (by obtain ⟨x, hx, hx0⟩ := HNEG.out.1 h0; exact dplain_neg hx hx0)))
        clear h0
        go_enter Tryz.func126, Tryz.ntmps126
        go_wp2_with (first | (go_at_call 147; refine HC.out.mono ?_; rintro e w' ⟨rfl, rfl⟩) | (go_at_call 148; refine HMIN.out.mono ?_; rintro e w' ⟨rfl, rfl⟩))
        go_ret2
        rw [hE.out]
        exact RetEO.nil _ (Below.refl _ _)
      have d0 : decide (mn < 0) = false := decide_eq_false h0
      have HPL := Lib.hid (dplain_some (l := l) (s := false) (.inr fun x hx => by
        by_cases h : x < 0
        · exact absurd (HNEG.out.2 ⟨x, hx, h⟩) h0
        · omega))
      clear h0
      go_enter Tryz.func126, Tryz.ntmps126
      go_wp2_with (first | (go_at_call 147; refine HC.out.mono ?_; rintro e w' ⟨rfl, rfl⟩) | (go_at_call 148; refine HMIN.out.mono ?_; rintro e w' ⟨rfl, rfl⟩) | (go_at_call 149; refine HDF.out.mono ?_))
      rintro e w1 (⟨hok, dv1, rfl, hd1, hb1⟩ | ⟨⟨i, hi, hbad⟩, rfl, hb1⟩)
      · have HOK := Lib.hid (show ∀ i, i < m → (diffAt l i).2.2 = true from fun i hi => hok i (by have := HN.out; have := HM.out; omega))
        rw [HM.out] at hd1
        obtain ⟨DA, dn, dcap, rfl⟩ := hd1.shape
        have hdn : dn = m := by have := hd1.parts.1; rw [gpairs_len] at this; omega
        subst hdn
        have HD1 := Lib.hid hd1
        have HB1 := Lib.hid hb1
        have HT1 := Lib.hid (HT.out.below hb1 HT.out.lt)
        have HWAY := Lib.hid (way_any (gpairs l dn) (.slice DA dn dcap) w1 hd1 (by rw [gpairs_len]; exact hm1) (by rw [gpairs_len]; omega))
        clear hok hd1 hb1
        cases hway : dway (gpairs l dn) with
        | false =>
          have hE := Lib.hid (gputE_none (s := false) (show gsizes l (gfalls l) (l.length - 1) = none by rw [HM.out]; exact gsizes_turn hm1 HOK.out hway))
          rw [hway] at HWAY
          clear hway
          go_wp2_with (go_at_call 150; refine HWAY.out.mono ?_; rintro e w2 ⟨rfl, hb2⟩)
          go_ret2
          rw [hE.out]
          exact RetEO.nil _ (below_then HB1.out hb2)
        | true =>
          have HSZ := Lib.hid (gsizes_way hm1 HOK.out hway)
          have HSM := Lib.hid (dsame_all hm1 HOK.out hway)
          have hst := first_step hm1 HOK.out
          have hE := gputE_some (s := false) HPL.out (by have := HN.out; omega) (by have := HN.out; omega) (show gsizes l (gfalls l) (l.length - 1) = some (sizesOf (gpairs l dn)) by rw [HM.out]; exact HSZ.out)
          have hfi := (gfirst_diff (l := l) (us := sizesOf (gpairs l dn)) (by have := HN.out; omega) (by rw [HM.out]; exact HSZ.out)).2
          have h64 := gsizes_64 HSZ.out
          have HPK := Lib.hid (fun (w : World) ht hd => tpack_any l dn (.slice DA dn dcap) w ht hd hm1 (by omega) HSM.out)
          have hgn := gnum_le h64
          have HTB := Lib.hid (gtail_short (us := sizesOf (gpairs l dn)) (by rw [show (sizesOf (gpairs l dn)).length = dn by unfold sizesOf; rw [List.length_map, gpairs_len]]; omega) h64)
          unfold glay at hE
          obtain ⟨us, hus⟩ : ∃ us, us = sizesOf (gpairs l dn) := ⟨_, rfl⟩
          rw [← hus] at hE hst hfi HPK hgn HTB
          obtain ⟨G, hG⟩ : ∃ G, G = gnum us := ⟨_, rfl⟩
          obtain ⟨tl, htl⟩ : ∃ tl, tl = gtail us := ⟨_, rfl⟩
          obtain ⟨x1, hx1⟩ : ∃ x1, x1 = gfirst l us := ⟨_, rfl⟩
          obtain ⟨x0, hx0⟩ : ∃ x0, x0 = l.headD 0 := ⟨_, rfl⟩
          rw [← hG, ← htl, ← hx1, ← hx0, ← HN.out] at hE
          rw [← hG, ← htl] at HPK
          rw [← hG] at hgn
          rw [← htl] at HTB
          rw [← hx1] at hst hfi
          obtain ⟨u0, f0, ok0, hd0⟩ : ∃ u0 f0 ok0, diffAt l 0 = (u0, f0, ok0) := ⟨_, _, _, rfl⟩
          have hu0 : (u0 : Int) < 18446744073709551616 := by have h := gdiff_lt (l.getD 0 0) (l.getD (0 + 1) 0); unfold diffAt at hd0; rw [hd0] at h; dsimp only at h; omega
          rw [hd0] at hst
          have HSP := Lib.hid (fun (w : World) => step_any 0 u0 f0 w (by unfold inInt; omega) hu0)
          rw [hst] at HSP
          unfold RetG at HSP
          have HE2 := Lib.hid hE
          have HX1 := Lib.hid hfi
          have HG31 := Lib.hid hgn
          have HX0 := Lib.hid (show inInt x0 by rw [hx0]; exact HL0.out)
          have HC0 := Lib.hid (show ∀ W, Below w.heap.size w W → ∃ ad, A = some ad ∧ ad.block < W.heap.size ∧ W.cell? (ad.add 0) = some (.int .i64 x0) from fun W hW => by
            obtain ⟨ad, e1, e2, e3⟩ := (HV.out.below hW).at (k := 0) (by have := HN.out; omega)
            refine ⟨ad, e1, e2, ?_⟩
            rw [e3, hx0]
            cases l with
            | nil => have := HN.out; simp at this; omega
            | cons a t => rfl)
          have HDC := Lib.hid (show ∀ W, IsR dc (gpairs l dn) (.slice DA dn dcap) W → ∃ ad, DA = some ad ∧ ad.block < W.heap.size ∧ W.cell? ad = some (.int .u64 (u0 : Int)) ∧ W.cell? ⟨ad.block, ad.off + 1, none⟩ = some (.bool f0) from fun W hW => by
            obtain ⟨ad, e1, e2, e3⟩ := hW.at (m := 2) dc_len (by omega) (k := 0) (by rw [gpairs_len]; exact hm1)
            have e4 : (gpairs l dn)[0]? = some (u0, f0) := by rw [gpairs_get 0 hm1, hd0]; rfl
            rw [List.getElem?_eq_getElem (by rw [gpairs_len]; exact hm1)] at e4
            injection e4 with e4
            rw [e4] at e3
            have k0 := cells2 e3
            rw [Nat.zero_mul] at k0
            have ha0 : ad.add 0 = ad := by simp [Addr.add]
            rw [ha0] at k0
            exact ⟨ad, e1, e2, k0.1, k0.2⟩)
          rw [hway] at HWAY
          clear hway hE hst hfi h64 hgn hus hG htl hx1 hx0 hd0 hu0
          go_wp2_with fail
          refine HWAY.out.mono ?_
          rintro e w2 ⟨rfl, hb2⟩
          have HB2 := Lib.hid (below_then HB1.out hb2)
          have HT2 := Lib.hid (HT1.out.below hb2 HT1.out.lt)
          have HD2 := Lib.hid (HD1.out.below hb2)
          clear hb2
          go_wp2_with fail
          refine (HPK.out w2 HT2.out HD2.out).mono ?_
          rintro e w3 ⟨pv, rfl, hp3, hb3⟩
          have HB3 := Lib.hid (below_then HB2.out hb3)
          have HT3 := Lib.hid (HT2.out.below hb3 HT2.out.lt)
          have HP3 := Lib.hid hp3
          obtain ⟨da, rfl, hda, hdc1, hdc2⟩ := HDC.out w3 (HD2.out.below hb3)
          clear hb3 hp3
          have ha0 : da.add 0 = da := by simp [Addr.add]
          go_wp2_with fail
          refine (HSP.out w3).mono ?_
          rintro e w4 ⟨rfl, hb4⟩
          have HB4 := Lib.hid (below_then HB3.out hb4)
          have HT4 := Lib.hid (HT3.out.below hb4 HT3.out.lt)
          have HP4 := Lib.hid (IsB.below HP3.out hb4)
          clear hb4 hdc1 hdc2 hda ha0
          go_wp2
          obtain ⟨ad, rfl, had, _⟩ := HC0.out w4 HB4.out
          refine wp_region_list [.is (.int .i64 (G : Int)), .is (.slice (some ad) n c), .is (.int .i64 (n : Int)), .bytes (dheadN 3 G n), .is (.slice (some ad) n c), .is (.pointer (some (ad.add 0))), .is (.int .i64 x0), .is (.bool false), .bytes (dheadN 3 G n ++ vput (vint x0 false)), .bytes (dheadN 3 G n ++ vput (vint x0 false))] [some 55, some 56, some 57, some 58, some 59, some 60, some 61, some 62, some 63, some 13] (by kernel_rfl) (by kernel_rfl) (by kernel_rfl) rfl ⟨?_, ?_, ?_, ?_, ?_, ?_, ?_, ?_, ?_, ?_, trivial⟩ ?_
          · intro ρ W1 hb1 H
            exact gives_move rfl (H.old 8 _ (by kernel_rfl) rfl) ⟨rfl, Below.refl _ _⟩
          · intro ρ W1 hb1 H
            exact gives_move rfl (H.old 0 _ (by kernel_rfl) rfl) ⟨rfl, Below.refl _ _⟩
          · intro ρ W1 hb1 H
            exact gives_len Tryz.underlying47 rfl (H.new 56 1 (by kernel_rfl)) ⟨rfl, Below.refl _ _⟩
          · intro ρ W1 hb1 H
            have e0 : ρ (.tmp 55) = .int .i64 (G : Int) := H.new 55 0 (by kernel_rfl)
            have e1 : ρ (.tmp 57) = .int .i64 (n : Int) := H.new 57 2 (by kernel_rfl)
            refine gives_call rfl (fun _ _ => by kernel_rfl) (H.func _) (args := #[.int .i64 3, .int .i64 (G : Int), .int .i64 (n : Int)]) (by simp [e0, e1, H.const]) ?_
            have hG := HG31.out
            refine (dhead_any 3 (G : Int) (n : Int) W1 (HT4.out.below hb1 HT4.out.lt) (by unfold inInt; omega) (by unfold inInt; omega) (by unfold inInt; omega)).mono ?_
            rintro e w' ⟨u, h1, h2, h3⟩
            rw [show ((3 : Int)) = ((3 : Nat) : Int) from rfl, dhead_in (by omega) hG (by omega) (by omega)] at h2
            exact ⟨_, h1, h2, h3⟩
          · intro ρ W1 hb1 H
            exact gives_move rfl (H.old 0 _ (by kernel_rfl) rfl) ⟨rfl, Below.refl _ _⟩
          · intro ρ W1 hb1 H
            exact gives_index (k := 0) elemI rfl (H.new 59 4 (by kernel_rfl)) (H.const _) (by omega) ⟨rfl, Below.refl _ _⟩
          · intro ρ W1 hb1 H
            obtain ⟨ad', e1, _, e2⟩ := HC0.out W1 (below_then HB4.out hb1)
            injection e1 with e1
            subst e1
            exact gives_load rfl (H.new 60 5 (by kernel_rfl)) Tryz.underlying3 rfl e2 ⟨rfl, Below.refl _ _⟩
          · intro ρ W1 hb1 H
            exact gives_move rfl (H.old 1 _ (by kernel_rfl) rfl) ⟨rfl, Below.refl _ _⟩
          · intro ρ W1 hb1 H
            have e0 : IsB (dheadN 3 G n) (ρ (.tmp 58)) W1 := H.new 58 3 (by kernel_rfl)
            have e1 : ρ (.tmp 61) = .int .i64 x0 := H.new 61 6 (by kernel_rfl)
            have e2 : ρ (.tmp 62) = .bool false := H.new 62 7 (by kernel_rfl)
            obtain ⟨hv, hhv⟩ : ∃ hv, hv = ρ (.tmp 58) := ⟨_, rfl⟩
            rw [← hhv] at e0
            refine gives_call rfl (fun _ _ => by kernel_rfl) (H.func _) (args := #[hv, .int .i64 x0, .bool false]) (by simp [hhv, e1, e2]) ?_
            exact (putInt_isB x0 false e0 (by rw [dheadN_len]; omega) HX0.out.1 HX0.out.2).mono fun e w' ⟨u, h1, h2, h3⟩ => ⟨_, h1, h2, h3⟩
          · intro ρ W1 hb1 H
            exact gives_assign rfl rfl ⟨H.new 63 8 (by kernel_rfl), Below.refl _ _⟩
          · intro vs W1 hb1 hfs
            have f9 : IsB (dheadN 3 G n ++ vput (vint x0 false)) (vs 9) W1 := hfs 9 (by decide)
            clear hfs
            simp only [putAll, Nat.zero_add, Nat.reduceAdd]
            generalize vs 0 = z0
            generalize vs 1 = z1
            generalize vs 2 = z2
            generalize vs 3 = z3
            generalize vs 4 = z4
            generalize vs 5 = z5
            generalize vs 6 = z6
            generalize vs 7 = z7
            generalize vs 8 = z8
            generalize vs 9 = z9 at f9 ⊢
            simp only [Act.put, List.setIfInBounds_toArray, List.set_cons_succ, List.set_cons_zero]
            have HO := Lib.hid f9
            have HBa := Lib.hid (below_then HB4.out hb1)
            have HP5 := Lib.hid (IsB.below HP4.out hb1)
            have HLN := Lib.hid (show (dheadN 3 G n ++ vput (vint x0 false)).length ≤ 1000 by rw [List.length_append, dheadN_len]; have := vput_len_10 (x := vint x0 false) (vint_64 HX0.out); omega)
            clear f9 hb1
            go_wp2_with fail
            refine (putInt_isO x1 true HO.out (by have := HLN.out; omega) HX1.out.1 HX1.out.2).mono ?_
            rintro e w6 ⟨v6, rfl, hown6, hb6⟩
            have hp6 := IsB.below HP5.out hb6
            obtain ⟨A7, n7, c7, rfl⟩ := IsV.shape (f := bv) hp6
            obtain ⟨hn7, hA7, -, -, hl7⟩ := IsV.parts (f := bv) (show IsV bv _ _ _ from hp6)
            have hM7 : (tl.map bv).length = n7 := by rw [List.length_map]; exact hn7
            have hn7b : n7 ≤ 5000 := by rw [← hn7]; exact HTB.out
            have HM7 := Lib.hid hM7
            have hzz6 := hb6.size
            obtain ⟨K6, hK6⟩ : ∃ K, K = (dheadN 3 G n ++ vput (vint x0 false) ++ vput (vint x1 true)).length := ⟨_, rfl⟩
            have hK6b : K6 ≤ 2000 := by rw [hK6, List.length_append]; have := vput_len_10 (x := vint x1 true) (vint_64 HX1.out); have := HLN.out; omega
            rw [← hK6] at hown6
            have HK6 := Lib.hid hK6
            obtain ⟨xs6, hx6⟩ : ∃ xs, xs = (dheadN 3 G n ++ vput (vint x0 false) ++ vput (vint x1 true)).map bv := ⟨_, rfl⟩
            rw [← hx6] at hown6
            have HX6 := Lib.hid hx6
            clear hp6 hM7 hn7 hK6 hx6
            go_wp2_with (at_builtin; refine wpList_join elemB rfl _ _ rfl W1.heap.size _ _ _ _ _ _ (tl.map bv) W1 rfl rfl hA7 HM7.out hl7 (bv_one _) hown6 hb6 hzz6 (by omega) (by omega) ?_)
            intro v8 w8 hown8 hb8 _ _
            have HI9 := Lib.hid (show w8.ownsRow w.heap.size 5 1 v8 (dheadN 3 G n ++ vput (vint x0 false) ++ vput (vint x1 true) ++ tl).length ((dheadN 3 G n ++ vput (vint x0 false) ++ vput (vint x1 true) ++ tl).map bv) by
              rw [List.map_append, ← HX6.out, List.length_append, ← HK6.out, show tl.length = n7 by have := HM7.out; rwa [List.length_map] at this]
              exact own_base HBa.out.size hown8)
            have HB9 := Lib.hid (below_then HBa.out hb8)
            clear hown8 hb8 hown6 hzz6
            go_wp2
            go_ret2
            rw [HE2.out]
            exact ⟨_, rfl, HI9.out, HB9.out⟩
      · have hE := Lib.hid (gputE_none (s := false) (show gsizes l (gfalls l) (l.length - 1) = none from gsizes_none (k := i) (by omega) (gat_bad hbad)))
        clear hi hbad
        go_wp2
        go_ret2
        rw [hE.out]
        exact RetEO.nil _ hb1
theorem tput_any (l : List Int) (v : Value) (s : Bool) (w : World) (ht : WTab w) (hv : IsV iv l v w) (hl : ∀ x ∈ l, inInt x) (hb : l.length ≤ 1000000) : Calls Tryz.prog 126 #[v, .bool s] w (RetE w (gputE l s)) := (tput_own l v s w ht hv hl hb).mono fun _ _ h => h.e
end Go.Proofs.YtblpkmmhmdpkjaaGreatDoor

/- delta's own contracts: Take; all four together. -/



namespace Go.Proofs.YtblpkmmhmdpkjaaGreatDoor

open Go.RowKit

theorem takeInt_none {l : List UInt8} {v : Value} {w : World} (s : Bool) (h : IsB l v w) (hl : l.length ≤ 1000000) (hn : vtint l s = none) : Calls Tryz.prog 155 #[v, .bool s] w fun e w' => ∃ r, e = .returned (.tuple #[.int .i64 0, r, .int .i64 2]) ∧ Below w.heap.size w w' := by
  refine (takeInt_isB s h hl).mono fun e w' h => ?_
  obtain ⟨r, h1, _, h3⟩ := h.parts
  rw [hn] at h1
  exact ⟨r, h1, h3⟩
theorem takeInt_some {l r : List UInt8} {v : Value} {w : World} {x : Int} (s : Bool) (h : IsB l v w) (hl : l.length ≤ 1000000) (hn : vtint l s = some (x, r)) : Calls Tryz.prog 155 #[v, .bool s] w fun e w' => ∃ u, e = .returned (.tuple #[.int .i64 x, u, .int .i64 0]) ∧ OwnB w r u w' ∧ Below w.heap.size w w' := by
  refine (takeInt_isB s h hl).mono fun e w' h => ?_
  obtain ⟨u, h1, h2, h3⟩ := h.owned
  rw [hn] at h1 h2
  exact ⟨u, h1, h2, h3⟩
/-- The sizes of a run, and what is behind. -/
def gup (r : List UInt8) (C M u0 : Nat) : Option (List Nat × List UInt8) :=
  if C = 0 then some (List.replicate (M - 1) u0, r)
  else if (unpacksAny r (M - 2 : Nat) (wof C)).2.2 = 0 then some (u0 :: (unpacksAny r (M - 2 : Nat) (wof C)).1, (unpacksAny r (M - 2 : Nat) (wof C)).2.1) else none
def gover (s f : Bool) (x : Int) : Option (List Nat × List UInt8) → List Int × List UInt8 × Int
  | none => ([], [], 2)
  | some p => gend s f x p.1 p.2
theorem gmore_up {s f : Bool} {x : Int} {u0 C M : Nat} {r : List UInt8} (hM : 2 ≤ M) : gmore s f x u0 (C : Int) (M : Int) r = gover s f x (gup r C M u0) := by
  unfold gup
  by_cases h0 : C = 0
  · subst h0
    rw [if_pos rfl, gmore_zero (by omega), show ((M : Int) - 1).toNat = M - 1 by omega]
    rfl
  · rw [if_neg h0]
    obtain ⟨us, q, e, hu⟩ : ∃ us q e, unpacksAny r (M - 2 : Nat) (wof C) = (us, q, e) := ⟨_, _, _, rfl⟩
    have hu2 : unpacksAny r ((M : Int) - 2) (wof C) = (us, q, e) := by rw [← hu]; congr 1; omega
    rw [hu]
    dsimp only
    by_cases he : e = 0
    · subst he
      rw [if_pos rfl, gmore_good (by omega) hu2]
      rfl
    · rw [if_neg he, gmore_bad (by omega) hu2 he]
      rfl
/-- What unpack answers, in the one way and in the other. -/
def RetUq (f : Bool) (o : Option (List Nat × List UInt8)) (w0 w : World) (e : Ending) (w' : World) : Prop :=
  match o with
  | none => e = .returned (.tuple #[.slice none 0 0, .slice none 0 0, .bool false]) ∧ Below w.heap.size w w'
  | some p => ∃ u r, e = .returned (.tuple #[u, r, .bool true]) ∧ IsR dc (toward f p.1) u w' ∧ OwnB w0 p.2 r w' ∧ Below w.heap.size w w'
theorem dunpack_is (r : List UInt8) (v : Value) (C M : Nat) (d : Int) (u0 : Nat) (f : Bool) (w0 w : World) (ht : WTab w) (hv : OwnB w0 r v w) (h00 : w0.heap.size ≤ w.heap.size) (hb : r.length ≤ 1000000) (hC : C ≤ 31) (hM2 : 2 ≤ M) (hM : M ≤ 512) (hd : inInt d) (hx : gdiff 0 d = (u0, f, true)) :
    Calls Tryz.prog 156 #[v, .int .i64 (C : Int), .int .i64 (M : Int), .int .i64 d] w (RetUq f (gup r C M u0) w0 w) := by
  unfold gup
  by_cases h0 : C = 0
  · subst h0
    rw [if_pos rfl]
    refine (unpack_zero v M d u0 f w hM2 hM hd hx).mono ?_
    rintro e w' ⟨u, h1, h2, h3⟩
    exact ⟨u, v, h1, h2, hv.below h3, h3⟩
  · rw [if_neg h0]
    refine (unpack_more r v C M d u0 f w ht hv.isB hb (by omega) hC hM2 hM hd hx).mono ?_
    intro e w' h
    split at h
    · rename_i he
      rw [if_pos he]
      obtain ⟨u, q, h1, h2, h3, h4⟩ := h
      exact ⟨u, q, h1, h2, OwnB.base h00 h3, h4⟩
    · rename_i he
      rw [if_neg he]
      exact h
theorem gup_bd {r q : List UInt8} {C M u0 : Nat} {us : List Nat} (h : gup r C M u0 = some (us, q)) (hM2 : 2 ≤ M) (hM : M ≤ 512) (hu : u0 < 2 ^ 64) : us.length ≤ 1000 ∧ ∀ u ∈ us, u < 2 ^ 64 := by
  unfold gup at h
  by_cases h0 : C = 0
  · rw [if_pos h0] at h
    injection h with h
    injection h with h1 h2
    subst h1
    refine ⟨by rw [List.length_replicate]; omega, fun u hm => ?_⟩
    rw [List.eq_of_mem_replicate hm]
    exact hu
  · rw [if_neg h0] at h
    obtain ⟨vs, q', e, hv⟩ : ∃ us q e, unpacksAny r (M - 2 : Nat) (wof C) = (us, q, e) := ⟨_, _, _, rfl⟩
    rw [hv] at h
    dsimp only at h
    split at h
    · rename_i he
      subst he
      injection h with h
      injection h with h1 h2
      subst h1
      have h3 := unpacksAny_len hv
      have h4 : ∀ u ∈ vs, u < 2 ^ 64 := by have h := (unpacksAny_lt (l := r) (M := (M - 2 : Nat)) (W := wof C)).1; rw [hv] at h; exact h
      refine ⟨by rw [List.length_cons]; omega, fun u hm => ?_⟩
      rcases List.mem_cons.1 hm with rfl | hm
      · exact hu
      · exact h4 u hm
    · cases h
set_option maxHeartbeats 8000000 in
set_option maxRecDepth 100000 in
theorem ttake_own (l : List UInt8) (v : Value) (s : Bool) (w : World) (ht : WTab w) (hv : IsB l v w) (hb : l.length ≤ 1000000) : Calls Tryz.prog 127 #[v, .bool s] w (RetIO w (gtakeE l s)) := by
  have HLK := Lib.hid (dlook_any l v w hv hb)
  unfold RetK at HLK
  have HT := Lib.hid ht
  rcases dlook_or l with ⟨_, hd⟩ | ⟨_, K, C, M, hK, hC, hM1, hM, hd⟩
  · have hE := Lib.hid (gtakeE_head (l := l) (s := s) (.inl (by rw [hd]; decide)))
    rw [hd] at HLK
    dsimp only at HLK
    clear hd ht hv hb
    go_enter Tryz.func127, Tryz.ntmps127
    go_wp2_with fail
    refine HLK.out.mono ?_
    rintro e w1 ⟨v1, rfl, _, hb1⟩
    go_wp2
    go_ret3
    rw [hE.out]
    exact RetIO.nil _ hb1
  · by_cases hk : K = 3 ∧ 2 ≤ M
    · obtain ⟨hk3, hM2⟩ := hk
      subst hk3
      have hE0 := Lib.hid (gtakeE_in (s := s) hd (by omega))
      rw [hd] at HLK
      dsimp only at HLK
      have HRL := Lib.hid (show (l.drop 2).length ≤ 1000000 by rw [List.length_drop]; omega)
      clear hd ht hv hb hK hM1
      generalize l.drop 2 = r0 at HLK HRL hE0
      go_enter Tryz.func127, Tryz.ntmps127
      go_wp2_with fail
      refine HLK.out.mono ?_
      rintro e w1 ⟨v1, rfl, hi1, hb1⟩
      have HI1 := Lib.hid hi1
      have HB1 := Lib.hid hb1
      clear hi1 hb1 HLK
      have hMi : ¬ (M : Int) < 2 := by omega
      go_wp2_with fail
      cases h1 : vtint r0 s with
      | none =>
        have hE := Lib.hid (hE0.out.trans (gbody_none h1))
        refine (takeInt_none s HI1.out HRL.out h1).mono ?_
        rintro e w2 ⟨v2, rfl, hb2⟩
        clear h1
        go_wp2
        go_ret3
        rw [hE.out]
        exact RetIO.nil _ (below_then HB1.out hb2)
      | some p =>
      obtain ⟨x, r1⟩ := p
      have HX := Lib.hid (vtint_bd h1)
      have H1 := Lib.hid h1
      refine (takeInt_some s HI1.out HRL.out h1).mono ?_
      rintro e w2 ⟨v2, rfl, ho2, hb2⟩
      have HO2 := Lib.hid ho2
      have HB2 := Lib.hid (below_then HB1.out hb2)
      have HRL1 := Lib.hid (show r1.length ≤ 1000000 from Nat.le_trans HX.out.2 HRL.out)
      clear h1 ho2 hb2
      go_wp2_with fail
      cases h2 : vtint r1 true with
      | none =>
        have hE := Lib.hid (hE0.out.trans (gbody_none2 H1.out h2))
        refine (takeInt_none true HO2.out.isB HRL1.out h2).mono ?_
        rintro e w3 ⟨v3, rfl, hb3⟩
        clear h2
        go_wp2
        go_ret3
        rw [hE.out]
        exact RetIO.nil _ (below_then HB2.out hb3)
      | some p =>
      obtain ⟨d, r2⟩ := p
      have HD := Lib.hid (vtint_bd h2)
      have H2 := Lib.hid h2
      refine (takeInt_some true HO2.out.isB HRL1.out h2).mono ?_
      rintro e w3 ⟨v3, rfl, ho3, hb3⟩
      have HO3 := Lib.hid (OwnB.base HB2.out.size ho3)
      have HB3 := Lib.hid (below_then HB2.out hb3)
      have HT3 := Lib.hid (HT.out.below HB3.out HT.out.lt)
      have HRL2 := Lib.hid (show r2.length ≤ 1000000 from Nat.le_trans HD.out.2 HRL1.out)
      clear h2 ho3 hb3
      go_wp2_with fail
      obtain ⟨u0, f, ok, hg⟩ : ∃ u0 f ok, gdiff 0 d = (u0, f, ok) := ⟨_, _, _, rfl⟩
      cases ok with
      | false =>
        have hE := Lib.hid (hE0.out.trans ((gbody_some H1.out H2.out hg).trans (if_neg (by decide))))
        refine (unpack_bad v3 (C : Int) (M : Int) d w3 HD.out.1 (by rw [hg])).mono ?_
        rintro e w4 ⟨rfl, hb4⟩
        clear hg
        go_wp2
        go_ret3
        rw [hE.out]
        exact RetIO.nil _ (below_then HB3.out hb4)
      | true =>
      have hE1 := Lib.hid (hE0.out.trans ((gbody_some H1.out H2.out hg).trans ((if_pos rfl).trans (gmore_up hM2))))
      have hu0 : u0 < 2 ^ 64 := by have h := gdiff_lt64 0 d; rw [hg] at h; exact h
      have HUP := Lib.hid (dunpack_is r2 v3 C M d u0 f w w3 HT3.out HO3.out HB3.out.size HRL2.out hC hM2 hM HD.out.1 hg)
      refine HUP.out.mono ?_
      cases hup : gup r2 C M u0 with
      | none =>
        rintro e w4 ⟨rfl, hb4⟩
        have hE := Lib.hid (show gtakeE l s = ([], [], 2) by rw [hE1.out, hup]; rfl)
        clear hg hup hu0
        go_wp2
        go_ret3
        rw [hE.out]
        exact RetIO.nil _ (below_then HB3.out hb4)
      | some p =>
      obtain ⟨us, q⟩ := p
      rintro e w4 ⟨v4, v5, rfl, hd4, ho4, hb4⟩
      have hbd := gup_bd hup hM2 hM hu0
      have HE2 := Lib.hid (show gtakeE l s = gend s f x us q by rw [hE1.out, hup]; rfl)
      have HNM := Lib.hid (numbers_any s f x us v4 w4 hd4 HX.out.1 hbd.2 hbd.1)
      have HO4 := Lib.hid ho4
      have HB4 := Lib.hid (below_then HB3.out hb4)
      clear hg hup hu0 hbd hd4 ho4 hb4
      go_wp2_with fail
      refine HNM.out.mono ?_
      unfold gend at HE2
      cases hw : gwalk s f x us with
      | none =>
        rintro e w5 ⟨rfl, hb5⟩
        have hE := HE2
        rw [hw] at hE
        clear hw
        go_wp2
        go_ret3
        rw [hE.out]
        exact RetIO.nil _ (below_then HB4.out hb5)
      | some ys =>
        rintro e w5 ⟨v6, rfl, hi5, hb5⟩
        have hE := HE2
        rw [hw] at hE
        have HI5 := Lib.hid hi5
        have HO5 := Lib.hid (HO4.out.below hb5)
        have HB5 := Lib.hid (below_then HB4.out hb5)
        clear hw hi5 hb5
        go_wp2
        go_ret3
        rw [hE.out]
        exact ⟨_, _, rfl, HI5.out, HO5.out, HB5.out⟩
    · have hE := Lib.hid (gtakeE_head (l := l) (s := s) (.inr (by rw [hd]; dsimp only; omega)))
      rw [hd] at HLK
      dsimp only at HLK
      clear hd ht hv hb
      by_cases hk3 : K = 3
      · subst hk3
        have hMi : (M : Int) < 2 := by omega
        clear hk
        go_enter Tryz.func127, Tryz.ntmps127
        go_wp2_with fail
        refine HLK.out.mono ?_
        rintro e w1 ⟨v1, rfl, _, hb1⟩
        go_wp2
        go_ret3
        rw [hE.out]
        exact RetIO.nil _ hb1
      · have d1 : ((K : Int) != 3) = true := by simp; omega
        clear hk
        go_enter Tryz.func127, Tryz.ntmps127
        go_wp2_with fail
        refine HLK.out.mono ?_
        rintro e w1 ⟨v1, rfl, _, hb1⟩
        go_wp2
        go_ret3
        rw [hE.out]
        exact RetIO.nil _ hb1
end Go.Proofs.YtblpkmmhmdpkjaaGreatDoor

/- Numbers of which a few are great (layer 10), as plain mathematics. -/



namespace Go.Proofs.YtblpkmmhmdpkjaaGreatDoor

/-- The least one. -/
def pbase (l : List Int) : Int := l.foldl min (l.headD 0)
theorem foldl_min_le : ∀ (l : List Int) (n : Int), l.foldl min n ≤ n ∧ ∀ x ∈ l, l.foldl min n ≤ x
  | [], n => ⟨Int.le_refl _, fun _ h => by cases h⟩
  | y :: l, n => by
    have h := foldl_min_le l (min n y)
    rw [List.foldl_cons]
    refine ⟨by omega, fun x hx => ?_⟩
    rcases List.mem_cons.1 hx with rfl | hx
    · omega
    · exact h.2 x hx
theorem foldl_min_mem : ∀ (l : List Int) (n : Int), l.foldl min n = n ∨ l.foldl min n ∈ l
  | [], n => .inl rfl
  | y :: l, n => by
    rw [List.foldl_cons]
    rcases foldl_min_mem l (min n y) with h | h
    · by_cases hn : n ≤ y
      · left; omega
      · right; rw [h, show min n y = y by omega]; exact List.mem_cons_self
    · exact .inr (List.mem_cons_of_mem _ h)
theorem pbase_le {l : List Int} {x : Int} (h : x ∈ l) : pbase l ≤ x := (foldl_min_le l _).2 x h
theorem pbase_mem {l : List Int} (h : 1 ≤ l.length) : pbase l ∈ l := by
  unfold pbase
  rcases foldl_min_mem l (l.headD 0) with h2 | h2
  · rw [h2]
    cases l with
    | nil => simp at h
    | cons a t => exact List.mem_cons_self
  · exact h2
def pone (base x : Int) : Option Nat := if (gdiff base x).2.2 = true then some (gdiff base x).1 else none
def pups (l : List Int) : Option (List Nat) := omap (pone (pbase l)) l
theorem pone_step {base x : Int} {u : Nat} (hx : inInt x) (hle : base ≤ x) (h : pone base x = some u) : gstep base u false = (x, true) ∧ (u : Int) < 9223372036854775808 := by
  unfold pone at h
  split at h
  · rename_i hk
    injection h with h
    subst h
    have h1 := gstep_gdiff (a := base) hx hk
    have h2 : (gdiff base x).2.1 = false := by
      rcases gdiff_cases base x with ⟨k, _⟩ | ⟨k1, _, _⟩ | ⟨_, _, k⟩
      · rw [k]
      · omega
      · rw [k]
    rw [h2] at h1
    exact ⟨h1, gdiff_lt base x⟩
  · cases h
theorem pups_len {l : List Int} {us : List Nat} (h : pups l = some us) : us.length = l.length := omap_len h
theorem pups_lt {l : List Int} {us : List Nat} (hl : ∀ x ∈ l, inInt x) (h : pups l = some us) : ∀ u ∈ us, (u : Int) < 9223372036854775808 := by
  intro u hu
  obtain ⟨x, hx, hu⟩ := omap_mem h hu
  exact (pone_step (hl x hx) (pbase_le hx) hu).2
/-- Pairs of a gap and a patch, of the first k numbers; and where the last one stands that is patched. -/
def pst (w : Nat) (us : List Nat) : Nat → List (Nat × Nat) × Nat
  | 0 => ([], 0)
  | k + 1 =>
    if us.getD k 0 / 2 ^ w = 0 then pst w us k
    else ((pst w us k).1 ++ (List.replicate ((k - (pst w us k).2 - 1) / 255) (255, 0) ++ [(k - (pst w us k).2 - 255 * ((k - (pst w us k).2 - 1) / 255), us.getD k 0 / 2 ^ w)]), k)
theorem pst_skip {w : Nat} {us : List Nat} {k : Nat} (h : us.getD k 0 / 2 ^ w = 0) : pst w us (k + 1) = pst w us k := by rw [pst, if_pos h]
theorem pst_more {w : Nat} {us : List Nat} {k : Nat} (h : us.getD k 0 / 2 ^ w ≠ 0) : pst w us (k + 1) = ((pst w us k).1 ++ (List.replicate ((k - (pst w us k).2 - 1) / 255) (255, 0) ++ [(k - (pst w us k).2 - 255 * ((k - (pst w us k).2 - 1) / 255), us.getD k 0 / 2 ^ w)]), k) := by rw [pst, if_neg h]
theorem pst_last (w : Nat) (us : List Nat) : ∀ k, (pst w us k).2 ≤ k
  | 0 => Nat.le_refl _
  | k + 1 => by
    have := pst_last w us k
    by_cases h : us.getD k 0 / 2 ^ w = 0
    · rw [pst_skip h]; omega
    · rw [pst_more h]; exact Nat.le_succ k
theorem pst_gap (w : Nat) (us : List Nat) : ∀ k, ∀ q ∈ (pst w us k).1, q.1 ≤ 255 ∧ (q.2 = 0 ∨ ∃ i, i < k ∧ q.2 = us.getD i 0 / 2 ^ w)
  | 0 => fun q hq => by cases hq
  | k + 1 => by
    intro q hq
    have ih := pst_gap w us k
    by_cases h : us.getD k 0 / 2 ^ w = 0
    · rw [pst_skip h] at hq
      obtain ⟨h1, h2⟩ := ih q hq
      exact ⟨h1, h2.imp id fun ⟨i, hi, h3⟩ => ⟨i, by omega, h3⟩⟩
    · rw [pst_more h] at hq
      simp only [List.mem_append, List.mem_replicate, List.mem_singleton] at hq
      rcases hq with hq | ⟨_, hq⟩ | hq
      · obtain ⟨h1, h2⟩ := ih q hq
        exact ⟨h1, h2.imp id fun ⟨i, hi, h3⟩ => ⟨i, by omega, h3⟩⟩
      · subst hq; exact ⟨Nat.le_refl _, .inl rfl⟩
      · subst hq; exact ⟨by dsimp only; omega, .inr ⟨k, by omega, rfl⟩⟩
def ppairs (w : Nat) (us : List Nat) : List (Nat × Nat) := (pst w us us.length).1
/-- The gap's width, and the patch's. -/
def pgw (ps : List (Nat × Nat)) : Nat := max 1 (wmost (ps.map (·.1)))
def ppw (ps : List (Nat × Nat)) : Nat := (wclosest (max 1 (wmost (ps.map (·.2))) : Nat)).toNat
def pcode (w : Nat) : Nat := (wcode (w : Int)).toNat
theorem wclose_all : ∀ n : Fin 65, 1 ≤ wclosest (n.val : Int) ∧ wclosest (n.val : Int) ≤ 64 ∧ (n.val : Int) ≤ wclosest (n.val : Int) ∧ 0 ≤ wcode (wclosest (n.val : Int)) ∧ wcode (wclosest (n.val : Int)) ≤ 31 ∧ wof (wcode (wclosest (n.val : Int))) = wclosest (n.val : Int) := by decide +kernel
theorem pclose {n : Nat} (h : n ≤ 64) : 1 ≤ (wclosest (n : Int)).toNat ∧ (wclosest (n : Int)).toNat ≤ 64 ∧ n ≤ (wclosest (n : Int)).toNat ∧ pcode (wclosest (n : Int)).toNat ≤ 31 ∧ wof (pcode (wclosest (n : Int)).toNat : Int) = ((wclosest (n : Int)).toNat : Int) ∧ wclosest (n : Int) = ((wclosest (n : Int)).toNat : Int) ∧ wcode ((wclosest (n : Int)).toNat : Int) = (pcode (wclosest (n : Int)).toNat : Int) := by
  have h1 := wclose_all ⟨n, by omega⟩
  dsimp only at h1
  have e : wclosest (n : Int) = ((wclosest (n : Int)).toNat : Int) := by omega
  have e2 : wcode ((wclosest (n : Int)).toNat : Int) = (pcode (wclosest (n : Int)).toNat : Int) := by unfold pcode; rw [← e]; omega
  refine ⟨by omega, by omega, by omega, ?_, ?_, e, e2⟩
  · rw [← e] at e2; omega
  · rw [← e2, ← e]; exact h1.2.2.2.2.2
theorem ppw_ok {w : Nat} {us : List Nat} (hu : ∀ u ∈ us, u < 2 ^ 64) : wmost ((ppairs w us).map (·.2)) ≤ 64 ∧ wmost ((ppairs w us).map (·.1)) ≤ 8 ∧ (∀ q ∈ ppairs w us, q.1 ≤ 255 ∧ q.2 < 2 ^ 64) := by
  have hq : ∀ q ∈ ppairs w us, q.1 ≤ 255 ∧ q.2 < 2 ^ 64 := by
    intro q hq
    obtain ⟨h1, h2⟩ := pst_gap w us us.length q hq
    refine ⟨h1, ?_⟩
    rcases h2 with h2 | ⟨i, hi, h2⟩
    · rw [h2]; exact Nat.two_pow_pos _
    · rw [h2, List.getD_eq_getElem?_getD, List.getElem?_eq_getElem hi]
      exact Nat.lt_of_le_of_lt (Nat.div_le_self _ _) (hu _ (List.getElem_mem hi))
  refine ⟨wmost_64 fun x hx => ?_, ?_, hq⟩
  · obtain ⟨q, hm, rfl⟩ := List.mem_map.1 hx
    exact (hq q hm).2
  · have h64 : ∀ x ∈ (ppairs w us).map (·.1), x < 2 ^ 64 := fun x hx => by
      obtain ⟨q, hm, rfl⟩ := List.mem_map.1 hx
      exact Nat.lt_of_le_of_lt (hq q hm).1 (by decide)
    rw [← wtop_bits h64]
    refine wbits_le (by omega) ?_
    have : ∀ (l : List Nat) (n : Nat), n ≤ 255 → (∀ x ∈ l, x ≤ 255) → l.foldl (fun n x => max n x) n ≤ 255 := by
      intro l
      induction l with
      | nil => intro n hn _; exact hn
      | cons y l ih => intro n hn h; rw [List.foldl_cons]; exact ih _ (by have := h y List.mem_cons_self; omega) fun x hx => h x (List.mem_cons_of_mem _ hx)
    have h2 := this ((ppairs w us).map (·.1)) 0 (by omega) fun x hx => by
      obtain ⟨q, hm, rfl⟩ := List.mem_map.1 hx
      exact (hq q hm).1
    unfold wtop
    show _ < 256
    omega
/-- A base as bytes. -/
def psize (base : Int) : Nat := (gdiff 0 base).1
def pn (base : Int) : Nat := wbits (psize base) / 8 + 1
def pbased (base : Int) : List UInt8 := be (pn base) (psize base + if base < 0 then 2 ^ (8 * pn base - 1) else 0)
def plow (us : List Nat) (w : Nat) : List Nat := us.map (· % 2 ^ w)
def pboth (ps : List (Nat × Nat)) (p : Nat) : List Nat := ps.map fun q => q.1 * 2 ^ p + q.2
def pheadb (base : Int) (ps : List (Nat × Nat)) : List UInt8 := [UInt8.ofNat (32 * (pn base - 1) + pcode (ppw ps)), UInt8.ofNat (32 * (pgw ps - 1) + ps.length)]
def play (base : Int) (us : List Nat) (w : Nat) : List UInt8 :=
  dheadN 2 (pcode w) us.length ++ pheadb base (ppairs w us) ++ pbased base ++ bpack (plow us w) w ++ bpack (pboth (ppairs w us) (ppw (ppairs w us))) (wclosest ((pgw (ppairs w us) + ppw (ppairs w us) : Nat) : Int)).toNat
/-- What Put answers. -/
def pputE (l : List Int) (W : Int) (s : Bool) : List UInt8 × Int :=
  if dplain l s = none ∨ l.length < 1 ∨ 512 < l.length ∨ wcode W < 0 ∨ 64 ≤ W then ([], 1)
  else match pups l with
    | none => ([], 1)
    | some us =>
      if pbase l = -9223372036854775808 ∨ 31 < (ppairs W.toNat us).length ∨ 64 < pgw (ppairs W.toNat us) + ppw (ppairs W.toNat us) ∨ 64 < W.toNat + ppw (ppairs W.toNat us) then ([], 1)
      else (play (pbase l) us W.toNat, 0)
/-- One pair is laid upon the numbers. -/
def pstep (w g p m : Nat) (st : Nat × List Nat) (v : Nat) : Option (Nat × List Nat) :=
  if v / 2 ^ p < 2 ^ g ∧ st.1 + v / 2 ^ p < m ∧ (wbits (v % 2 ^ p) + w ≤ 63 ∨ v % 2 ^ p = 0) then
    some (st.1 + v / 2 ^ p, st.2.set (st.1 + v / 2 ^ p) (st.2.getD (st.1 + v / 2 ^ p) 0 ^^^ (v % 2 ^ p * 2 ^ w)))
  else none
def pall (w g p m : Nat) : Nat × List Nat → List Nat → Option (Nat × List Nat)
  | st, [] => some st
  | st, v :: vs => match pstep w g p m st v with | none => none | some st' => pall w g p m st' vs
theorem pall_append (w g p m : Nat) (st : Nat × List Nat) (a b : List Nat) : pall w g p m st (a ++ b) = match pall w g p m st a with | none => none | some st' => pall w g p m st' b := by
  induction a generalizing st with
  | nil => rfl
  | cons v vs ih =>
    rw [List.cons_append, pall, pall]
    cases pstep w g p m st v with
    | none => rfl
    | some st' => exact ih st'
theorem pall_snoc (w g p m : Nat) (st : Nat × List Nat) (a : List Nat) (v : Nat) : pall w g p m st (a ++ [v]) = match pall w g p m st a with | none => none | some st' => pstep w g p m st' v := by
  rw [pall_append]
  cases pall w g p m st a with
  | none => rfl
  | some st' =>
    dsimp only
    rw [pall]
    cases pstep w g p m st' v with
    | none => rfl
    | some _ => rfl
/-- What Take answers. -/
def pend (s : Bool) (base : Int) (w g p m : Nat) (low both : List Nat) (q : List UInt8) : List Int × List UInt8 × Int :=
  match pall w g p m (0, low) both with
  | none => gbad
  | some st => match omap (gnext s false base) st.2 with | none => gbad | some xs => (xs, q, 0)
def pbits (s : Bool) (base : Int) (c m : Int) (g p some_ : Nat) (r : List UInt8) : List Int × List UInt8 × Int :=
  match unpacksAny r m (wof c) with
  | (low, r3, e) => if e ≠ 0 then gbad else match unpacksAny r3 some_ (wclosest ((g + p : Nat) : Int)) with
    | (both, r4, e) => if e ≠ 0 then gbad else pend s base (wof c).toNat g p m.toNat low both r4
/-- The base that bytes are. -/
def pmade (x : List UInt8) : Int := if 2 ^ (8 * x.length - 1) ≤ bval x then -((bval x % 2 ^ (8 * x.length - 1) : Nat) : Int) else ((bval x % 2 ^ (8 * x.length - 1) : Nat) : Int)
def pbody (s : Bool) (c m : Int) (r : List UInt8) : List Int × List UInt8 × Int :=
  if r.length < 2 then gbad
  else if 64 < (r.getD 1 0).toNat / 32 + 1 + (wof ((r.getD 0 0).toNat % 32 : Nat)).toNat ∨ r.length - 2 < (r.getD 0 0).toNat / 32 + 1 then gbad
  else pbits s (pmade ((r.drop 2).take ((r.getD 0 0).toNat / 32 + 1))) c m ((r.getD 1 0).toNat / 32 + 1) (wof ((r.getD 0 0).toNat % 32 : Nat)).toNat ((r.getD 1 0).toNat % 32) ((r.drop 2).drop ((r.getD 0 0).toNat / 32 + 1))
def ptakeE (l : List UInt8) (s : Bool) : List Int × List UInt8 × Int :=
  if (dlook l).2.2.2.2 ≠ 0 ∨ (dlook l).1 ≠ 2 then gbad else pbody s (dlook l).2.1 (dlook l).2.2.1 (dlook l).2.2.2.1

/-- The bits below a place, and those above: together. -/
theorem xor_join (w a b : Nat) (ha : a < 2 ^ w) : a ^^^ (b * 2 ^ w) = a + b * 2 ^ w := by
  refine Nat.eq_of_testBit_eq fun i => ?_
  rw [Nat.testBit_xor, Nat.mul_comm b, Nat.add_comm a, Nat.testBit_two_pow_mul_add b ha]
  by_cases h : i < w
  · rw [if_pos h, Nat.testBit_two_pow_mul, decide_eq_false (by omega : ¬ w ≤ i)]
    simp
  · rw [if_neg h, Nat.testBit_two_pow_mul, decide_eq_true (by omega : w ≤ i)]
    have h2 : a.testBit i = false := Nat.testBit_lt_two_pow (Nat.lt_of_lt_of_le ha (Nat.pow_le_pow_right (by omega) (by omega)))
    rw [h2]
    simp
theorem patch_back (u w : Nat) : (u % 2 ^ w) ^^^ (u / 2 ^ w * 2 ^ w) = u := by
  rw [xor_join w _ _ (Nat.mod_lt _ (Nat.two_pow_pos w)), Nat.mul_comm]
  have := Nat.div_add_mod u (2 ^ w)
  omega
theorem pstep_of {w g p m : Nat} {st : Nat × List Nat} {gap patch : Nat} (hp : patch < 2 ^ p) (hg : gap < 2 ^ g) (hm : st.1 + gap < m) (hb : wbits patch + w ≤ 63 ∨ patch = 0) :
    pstep w g p m st (gap * 2 ^ p + patch) = some (st.1 + gap, st.2.set (st.1 + gap) (st.2.getD (st.1 + gap) 0 ^^^ (patch * 2 ^ w))) := by
  have e1 : (gap * 2 ^ p + patch) / 2 ^ p = gap := by rw [Nat.mul_comm, Nat.mul_add_div (Nat.two_pow_pos p), Nat.div_eq_of_lt hp, Nat.add_zero]
  have e2 : (gap * 2 ^ p + patch) % 2 ^ p = patch := by rw [Nat.mul_comm, Nat.mul_add_mod, Nat.mod_eq_of_lt hp]
  unfold pstep
  rw [e1, e2, if_pos ⟨hg, hm, hb⟩]
theorem set_same {low : List Nat} {k : Nat} : low.set k (low.getD k 0) = low := by
  by_cases h : k < low.length
  · rw [List.getD_eq_getElem?_getD, List.getElem?_eq_getElem h, Option.getD_some]; exact List.set_getElem_self h
  · exact List.set_eq_of_length_le (by omega)
/-- Pairs of the gap 255 and the patch 0 go on and change nothing. -/
theorem pall_fill {w g p m : Nat} (hg : 255 < 2 ^ g) : ∀ (j at_ : Nat) (low : List Nat), at_ + 255 * j < m → pall w g p m (at_, low) (pboth (List.replicate j (255, 0)) p) = some (at_ + 255 * j, low)
  | 0, at_, low, _ => by simp [pboth, pall]
  | j + 1, at_, low, h => by
    have hm : (at_, low).1 + 255 < m := Nat.lt_of_le_of_lt (Nat.add_le_add_left (by omega : 255 ≤ 255 * (j + 1)) at_) h
    have h1 := pstep_of (w := w) (p := p) (patch := 0) (Nat.two_pow_pos p) hg hm (.inr rfl)
    have h2 := pall_fill (w := w) (p := p) hg j (at_ + 255) low (by omega : at_ + 255 + 255 * j < m)
    rw [Nat.zero_mul, Nat.xor_zero, set_same] at h1
    dsimp only at h1
    unfold pboth at h2 ⊢
    rw [List.replicate_succ, List.map_cons, pall, h1]
    dsimp only
    rw [h2]
    congr 2
    omega
/-- What is patched of the first k numbers makes these again. -/
theorem pall_st {w g p : Nat} {us : List Nat} (hu : ∀ u ∈ us, (u : Int) < 9223372036854775808) (hw : w ≤ 63) : ∀ k, k ≤ us.length → (∀ q ∈ (pst w us k).1, q.1 < 2 ^ g ∧ q.2 < 2 ^ p) →
    pall w g p us.length (0, plow us w) (pboth (pst w us k).1 p) = some ((pst w us k).2, us.take k ++ (plow us w).drop k)
  | 0, _, _ => by simp [pst, pboth, pall]
  | k + 1, hk, h => by
    have hll : (plow us w).length = us.length := by simp [plow]
    have hkl : k < (plow us w).length := by omega
    have hd : (plow us w).drop k = (us[k] % 2 ^ w) :: (plow us w).drop (k + 1) := by rw [List.drop_eq_getElem_cons hkl]; simp [plow]
    have hgd : us.getD k 0 = us[k] := by rw [List.getD_eq_getElem?_getD, List.getElem?_eq_getElem (by omega)]; rfl
    by_cases h0 : us.getD k 0 / 2 ^ w = 0
    · rw [pst_skip h0] at h ⊢
      rw [pall_st hu hw k (by omega) h, hd, List.take_succ_eq_append_getElem (by omega), List.append_assoc]
      rw [hgd] at h0
      have : us[k] % 2 ^ w = us[k] := by have := Nat.div_add_mod us[k] (2 ^ w); rw [h0] at this; omega
      rw [this]
      rfl
    · rw [pst_more h0] at h ⊢
      have hlast := pst_last w us k
      obtain ⟨last, hl⟩ : ∃ last, last = (pst w us k).2 := ⟨_, rfl⟩
      obtain ⟨j, hj⟩ : ∃ j, j = (k - last - 1) / 255 := ⟨_, rfl⟩
      rw [← hl, ← hj] at h ⊢
      rw [← hl] at hlast
      have hih := pall_st hu hw k (by omega) fun q hq => h q (List.mem_append_left _ hq)
      have hone := h (k - last - 255 * j, us.getD k 0 / 2 ^ w) (List.mem_append_right _ (List.mem_append_right _ (List.mem_singleton.2 rfl)))
      rw [pboth, List.map_append, List.map_append, pall_append, ← pboth, hih]
      dsimp only
      rw [← hl, pall_append, ← pboth]
      have hfill : pall w g p us.length (last, us.take k ++ (plow us w).drop k) (pboth (List.replicate j (255, 0)) p) = some (last + 255 * j, us.take k ++ (plow us w).drop k) := by
        by_cases hj0 : j = 0
        · subst hj0; rfl
        · have h255 : 255 < 2 ^ g := (h (255, 0) (List.mem_append_right _ (List.mem_append_left _ (List.mem_replicate.2 ⟨hj0, rfl⟩)))).1
          exact pall_fill h255 j last _ (by omega)
      rw [hfill]
      dsimp only
      rw [List.map_cons, List.map_nil, pall]
      have hb : wbits (us.getD k 0 / 2 ^ w) + w ≤ 63 := by
        have h1 : us.getD k 0 / 2 ^ w < 2 ^ (63 - w) := by
          rw [Nat.div_lt_iff_lt_mul (Nat.two_pow_pos w), ← Nat.pow_add, show 63 - w + w = 63 by omega, hgd]
          have := hu us[k] (List.getElem_mem _)
          show us[k] < 9223372036854775808
          omega
        have := wbits_le (by omega) h1
        omega
      rw [pstep_of hone.2 hone.1 (by dsimp only; omega) (.inl hb)]
      dsimp only
      rw [show last + 255 * j + (k - last - 255 * j) = k by omega, pall]
      congr 2
      have htl : (us.take k).length = k := by rw [List.length_take]; omega
      rw [hd, List.getD_eq_getElem?_getD, List.getElem?_append_right (by omega), htl, Nat.sub_self, List.getElem?_cons_zero, Option.getD_some, hgd, patch_back, List.set_append_right _ _ (by omega), htl, Nat.sub_self, List.set_cons_zero, List.take_succ_eq_append_getElem (by omega), List.append_assoc]
      rfl
theorem wcode_back {x : Int} (h : 0 ≤ wcode x) : wof (wcode x) = x ∧ wcode x ≤ 31 := by
  refine ⟨?_, (wcode_bd x).2⟩
  unfold wcode at h ⊢
  cases hf : (List.range 32).find? fun i => wat i == x with
  | none => rw [hf] at h; dsimp only at h; omega
  | some i =>
    dsimp only
    have h1 := List.find?_some hf
    have h2 := List.mem_range.1 (List.mem_of_find?_eq_some hf)
    rw [wof_in h2]
    simpa using h1
theorem pcode_back {w : Nat} (h : 0 ≤ wcode (w : Int)) : wof (pcode w : Int) = (w : Int) ∧ pcode w ≤ 31 ∧ wcode (w : Int) = (pcode w : Int) := by
  have h1 := wcode_back h
  have e : wcode (w : Int) = (pcode w : Int) := by unfold pcode; omega
  rw [e] at h1
  exact ⟨h1.1, by omega, e⟩
theorem psize_base {base : Int} (h : inInt base) (h2 : base ≠ -9223372036854775808) : (psize base : Int) = (if base < 0 then -base else base) ∧ (psize base : Int) < 9223372036854775808 := by
  unfold inInt at h
  unfold psize
  rcases gdiff_cases 0 base with ⟨_, k⟩ | ⟨k1, k2, k⟩ | ⟨k1, k2, k⟩
  · omega
  · rw [k, if_pos k1]; dsimp only; omega
  · rw [k, if_neg (by omega)]; dsimp only; omega
theorem pn_bd {base : Int} (h : (psize base : Int) < 9223372036854775808) : 1 ≤ pn base ∧ pn base ≤ 8 ∧ psize base < 2 ^ (8 * pn base - 1) := by
  have h1 : psize base < 2 ^ 63 := by show psize base < 9223372036854775808; omega
  have h2 := wbits_le (by omega) h1
  have h3 := wbits_lt (x := psize base) (Nat.lt_trans h1 (by decide))
  unfold pn
  refine ⟨by omega, by omega, Nat.lt_of_lt_of_le h3 (Nat.pow_le_pow_right (by omega) (by omega))⟩
theorem pbased_len (base : Int) : (pbased base).length = pn base := be_len _ _
theorem pbased_bval {base : Int} (h : (psize base : Int) < 9223372036854775808) : bval (pbased base) = psize base + if base < 0 then 2 ^ (8 * pn base - 1) else 0 := by
  obtain ⟨h1, _, h3⟩ := pn_bd h
  unfold pbased
  rw [bval_be, Nat.mod_eq_of_lt]
  rw [p256, show 8 * pn base = (8 * pn base - 1) + 1 by omega, Nat.pow_succ, Nat.add_sub_cancel]
  split <;> omega
theorem pmade_back {base : Int} (h : inInt base) (h2 : base ≠ -9223372036854775808) : pmade (pbased base) = base := by
  obtain ⟨hs, hlt⟩ := psize_base h h2
  obtain ⟨_, _, h3⟩ := pn_bd hlt
  unfold pmade
  rw [pbased_len, pbased_bval hlt]
  generalize 2 ^ (8 * pn base - 1) = P at *
  by_cases hb : base < 0
  · rw [if_pos hb] at hs ⊢
    rw [if_pos (by omega), Nat.add_mod_right, Nat.mod_eq_of_lt h3]
    omega
  · rw [if_neg hb] at hs ⊢
    rw [if_neg (by omega), Nat.add_zero, Nat.mod_eq_of_lt h3]
    omega
theorem wtop_bound {l : List Nat} (h : ∀ x ∈ l, x < 2 ^ 64) {x : Nat} (hx : x ∈ l) : x < 2 ^ wmost l := by
  have h1 := (wbits_iff (wtop_lt h) (wmost_64 h)).1 (by rw [wtop_bits h]; exact Nat.le_refl _)
  exact Nat.lt_of_le_of_lt (wtop_mem hx) h1
/-- What is known of the pairs of numbers. -/
theorem ppairs_ok {w : Nat} {us : List Nat} (hu : ∀ u ∈ us, u < 2 ^ 64) :
    1 ≤ pgw (ppairs w us) ∧ pgw (ppairs w us) ≤ 8 ∧ 1 ≤ ppw (ppairs w us) ∧ ppw (ppairs w us) ≤ 64 ∧ wclosest ((max 1 (wmost ((ppairs w us).map (·.2))) : Nat) : Int) = (ppw (ppairs w us) : Int) ∧ wcode (ppw (ppairs w us) : Int) = (pcode (ppw (ppairs w us)) : Int) ∧ pcode (ppw (ppairs w us)) ≤ 31 ∧ wof (pcode (ppw (ppairs w us)) : Int) = (ppw (ppairs w us) : Int) ∧
    ∀ q ∈ ppairs w us, q.1 < 2 ^ pgw (ppairs w us) ∧ q.2 < 2 ^ ppw (ppairs w us) := by
  obtain ⟨h1, h2, h3⟩ := ppw_ok (w := w) hu
  obtain ⟨c1, c2, c3, c4, c5, c6, c7⟩ := pclose (n := max 1 (wmost ((ppairs w us).map (·.2)))) (by omega)
  have hg : pgw (ppairs w us) = max 1 (wmost ((ppairs w us).map (·.1))) := rfl
  refine ⟨by omega, by omega, c1, c2, c6, c7, c4, c5, fun q hq => ⟨?_, ?_⟩⟩
  · have := wtop_bound (l := (ppairs w us).map (·.1)) (fun x hx => by
      obtain ⟨q, hm, rfl⟩ := List.mem_map.1 hx
      exact Nat.lt_of_le_of_lt (h3 q hm).1 (by decide)) (List.mem_map_of_mem hq)
    exact Nat.lt_of_lt_of_le this (Nat.pow_le_pow_right (by omega) (by omega))
  · have := wtop_bound (l := (ppairs w us).map (·.2)) (fun x hx => by
      obtain ⟨q, hm, rfl⟩ := List.mem_map.1 hx
      exact (h3 q hm).2) (List.mem_map_of_mem hq)
    refine Nat.lt_of_lt_of_le this (Nat.pow_le_pow_right (by omega) ?_)
    show _ ≤ (wclosest ((max 1 (wmost ((ppairs w us).map (·.2))) : Nat) : Int)).toNat
    omega
theorem pboth_lt {ps : List (Nat × Nat)} {g p : Nat} (h : ∀ q ∈ ps, q.1 < 2 ^ g ∧ q.2 < 2 ^ p) : ∀ x ∈ pboth ps p, x < 2 ^ (g + p) := by
  intro x hx
  obtain ⟨q, hq, rfl⟩ := List.mem_map.1 hx
  obtain ⟨h1, h2⟩ := h q hq
  have : (q.1 + 1) * 2 ^ p ≤ 2 ^ g * 2 ^ p := Nat.mul_le_mul_right _ h1
  rw [Nat.pow_add]
  rw [Nat.add_mul] at this
  omega
theorem byte_low {n : Nat} (h : n < 256) : (UInt8.ofNat n).toNat = n := by simp only [UInt8.toNat_ofNat', Nat.reducePow]; exact Nat.mod_eq_of_lt h
/-- P10.3. -/
theorem ptake_back {l : List Int} {s : Bool} {us : List Nat} {w : Nat} (hl : ∀ x ∈ l, inInt x ∧ (s = true ∨ 0 ≤ x)) (h1 : 1 ≤ l.length) (h5 : l.length ≤ 512) (hc : 0 ≤ wcode (w : Int)) (hw : w < 64) (hu : pups l = some us)
    (hb : pbase l ≠ -9223372036854775808) (h31 : (ppairs w us).length ≤ 31) (hgp : pgw (ppairs w us) + ppw (ppairs w us) ≤ 64) (b : List UInt8) : ptakeE (play (pbase l) us w ++ b) s = (l, b, 0) := by
  have hbi : inInt (pbase l) := (hl _ (pbase_mem h1)).1
  obtain ⟨hs, hlt⟩ := psize_base hbi hb
  obtain ⟨n1, n8, _⟩ := pn_bd hlt
  have hu63 := pups_lt (fun x hx => (hl x hx).1) hu
  have hu64 : ∀ u ∈ us, u < 2 ^ 64 := fun u h => by have := hu63 u h; show u < 18446744073709551616; omega
  obtain ⟨g1, g8, p1, p64, _, _, pc, pw, hq⟩ := ppairs_ok (w := w) hu64
  obtain ⟨cw, c31, _⟩ := pcode_back hc
  have hul := pups_len hu
  obtain ⟨W2, hW2⟩ : ∃ W2, W2 = (wclosest ((pgw (ppairs w us) + ppw (ppairs w us) : Nat) : Int)).toNat := ⟨_, rfl⟩
  obtain ⟨_, d2, d3, _, _, d6, _⟩ := pclose hgp
  rw [← hW2] at d2 d3 d6
  have hbl := pboth_lt hq
  have hbl2 : ∀ x ∈ pboth (ppairs w us) (ppw (ppairs w us)), x < 2 ^ W2 := fun x hx => Nat.lt_of_lt_of_le (hbl x hx) (Nat.pow_le_pow_right (by omega) d3)
  have hst := pall_st (w := w) (g := pgw (ppairs w us)) (p := ppw (ppairs w us)) hu63 (by omega) us.length (Nat.le_refl _) hq
  have hpe : pboth (pst w us us.length).1 (ppw (ppairs w us)) = pboth (ppairs w us) (ppw (ppairs w us)) := rfl
  rw [hpe, List.take_of_length_le (Nat.le_refl _), List.drop_eq_nil_of_le (by simp [plow]), List.append_nil] at hst
  have hback : omap (gnext s false (pbase l)) us = some l := omap_back (fun x hx u h => by
    have h2 := pone_step (hl x hx).1 (pbase_le hx) h
    unfold gnext
    rw [h2.1]
    exact if_pos ⟨rfl, (hl x hx).2⟩) hu
  have hll : (plow us w).length = us.length := by simp [plow]
  have hpl : (pboth (ppairs w us) (ppw (ppairs w us))).length = (ppairs w us).length := by simp [pboth]
  generalize hps : ppairs w us = ps at *
  generalize hpp : ppw ps = p at *
  generalize hgg : pgw ps = g at *
  have e0 : (UInt8.ofNat (32 * (pn (pbase l) - 1) + pcode p)).toNat = 32 * (pn (pbase l) - 1) + pcode p := byte_low (by omega)
  have e1 : (UInt8.ofNat (32 * (g - 1) + ps.length)).toNat = 32 * (g - 1) + ps.length := byte_low (by omega)
  have hlook : dlook (play (pbase l) us w ++ b) = (2, (pcode w : Int), (us.length : Int), UInt8.ofNat (32 * (pn (pbase l) - 1) + pcode p) :: UInt8.ofNat (32 * (g - 1) + ps.length) :: (pbased (pbase l) ++ (bpack (plow us w) w ++ (bpack (pboth ps p) W2 ++ b))), 0) := by
    unfold play pheadb
    rw [hps, hpp, hgg, ← hW2]
    simp only [List.append_assoc, List.cons_append, List.nil_append]
    exact dlook_head (k := 2) (by omega) c31 (by omega) (by omega) _
  unfold ptakeE
  rw [hlook]
  dsimp only
  rw [if_neg (by omega)]
  unfold pbody
  simp only [List.getD_cons_zero, List.getD_cons_succ, List.drop_succ_cons, List.drop_zero, List.length_cons, List.length_append, e0, e1, pbased_len]
  rw [if_neg (by omega), show (32 * (pn (pbase l) - 1) + pcode p) % 32 = pcode p by omega, pw, Int.toNat_natCast, show (32 * (pn (pbase l) - 1) + pcode p) / 32 + 1 = pn (pbase l) by omega, show (32 * (g - 1) + ps.length) / 32 + 1 = g by omega, show (32 * (g - 1) + ps.length) % 32 = ps.length by omega,
    if_neg (by omega), List.take_left' (pbased_len _), List.drop_left' (pbased_len _), pmade_back hbi hb]
  unfold pbits
  rw [cw, unpacksAny_in _ _ _ (by omega) (by omega), ← hll, unpacks_back (fun x hx => by
    obtain ⟨u, _, rfl⟩ := List.mem_map.1 hx
    exact Nat.mod_lt _ (Nat.two_pow_pos w))]
  dsimp only
  rw [if_neg (by decide), d6, unpacksAny_in _ _ _ (by omega) d2, ← hpl, unpacks_back hbl2]
  dsimp only
  rw [if_neg (by decide), hll]
  unfold pend
  rw [Int.toNat_natCast, Int.toNat_natCast, hst]
  dsimp only
  rw [hback]
end Go.Proofs.YtblpkmmhmdpkjaaGreatDoor

/- What the walk of layer 10's Take asks, as plain mathematics. -/





namespace Go.Proofs.YtblpkmmhmdpkjaaGreatDoor

open Go.RowKit

theorem ptakeE_head {l : List UInt8} {s : Bool} (h : (dlook l).2.2.2.2 ≠ 0 ∨ (dlook l).1 ≠ 2) : ptakeE l s = ([], [], 2) := by unfold ptakeE; rw [if_pos h]; rfl
theorem ptakeE_in {l r : List UInt8} {s : Bool} {c m : Int} (h : dlook l = (2, c, m, r, 0)) : ptakeE l s = pbody s c m r := by
  unfold ptakeE
  rw [h]
  exact if_neg (by simp)
theorem dlook_many {l r : List UInt8} {k c m : Int} (h : dlook l = (k, c, m, r, 0)) : 1 ≤ m := by
  by_cases h2 : l.length < 2
  · rw [dlook_short h2] at h; injection h with _ h; injection h with _ h; injection h with _ h; injection h with _ h; cases h
  · rw [dlook_long (X := 256 * l[0].toNat + l[1].toNat) (by omega) rfl] at h
    injection h with _ h; injection h with _ h; injection h with h _
    omega
theorem pbody_short {r : List UInt8} {s : Bool} {c m : Int} (h : r.length < 2) : pbody s c m r = ([], [], 2) := by unfold pbody; rw [if_pos h]; rfl
theorem pbody_eq {r d : List UInt8} {s : Bool} {c m : Int} {b0 b1 n g p t : Nat} (h2 : 2 ≤ r.length) (h0 : b0 = r[0].toNat) (h1 : b1 = r[1].toNat) (hn : n = b0 / 32 + 1) (hg : g = b1 / 32 + 1) (ht : t = b1 % 32) (hp : wof ((b0 % 32 : Nat) : Int) = (p : Int)) (hd : d = r.drop 2) :
    pbody s c m r = if 64 < g + p ∨ d.length < n then ([], [], 2) else pbits s (pmade (d.take n)) c m g p t (d.drop n) := by
  have e0 : (r.getD 0 0).toNat = b0 := by rw [h0, List.getD_eq_getElem?_getD, List.getElem?_eq_getElem (by omega)]; rfl
  have e1 : (r.getD 1 0).toNat = b1 := by rw [h1, List.getD_eq_getElem?_getD, List.getElem?_eq_getElem (by omega)]; rfl
  have ep : (wof ((b0 % 32 : Nat) : Int)).toNat = p := by rw [hp]; rfl
  unfold pbody
  rw [if_neg (by omega), e0, e1, ep, ← hn, ← hg, ← ht, ← hd, show r.length - 2 = d.length by rw [hd, List.length_drop]]
  rfl
theorem bval_snoc_at (r : List UInt8) (k : Nat) (h : k < r.length) : bval (r.take (k + 1)) = 256 * bval (r.take k) + r[k].toNat := by
  rw [List.take_succ_eq_append_getElem h, bval_append]
  simp [bval]
  omega
theorem pbits_cut {s : Bool} {base : Int} {c m : Int} {g p t : Nat} {r q : List UInt8} {us : List Nat} {e : Int} (hu : unpacksAny r m (wof c) = (us, q, e)) (he : e ≠ 0) : pbits s base c m g p t r = ([], [], 2) := by
  unfold pbits; rw [hu]; dsimp only; rw [if_pos he]; rfl
theorem pbits_cut2 {s : Bool} {base : Int} {c m : Int} {g p t : Nat} {r q q2 : List UInt8} {us vs : List Nat} {e : Int} (hu : unpacksAny r m (wof c) = (us, q, 0)) (hv : unpacksAny q (t : Int) (wclosest ((g + p : Nat) : Int)) = (vs, q2, e)) (he : e ≠ 0) : pbits s base c m g p t r = ([], [], 2) := by
  unfold pbits; rw [hu]; dsimp only; rw [if_neg (by simp), hv]; dsimp only; rw [if_pos he]; rfl
theorem pbits_in {s : Bool} {base : Int} {c m : Int} {g p t : Nat} {r q q2 : List UInt8} {us vs : List Nat} (hu : unpacksAny r m (wof c) = (us, q, 0)) (hv : unpacksAny q (t : Int) (wclosest ((g + p : Nat) : Int)) = (vs, q2, 0)) : pbits s base c m g p t r = pend s base (wof c).toNat g p m.toNat us vs q2 := by
  unfold pbits; rw [hu]; dsimp only; rw [if_neg (by simp), hv]; dsimp only; rw [if_neg (by simp)]
theorem pend_none {s : Bool} {base : Int} {w g p m : Nat} {low both : List Nat} {q : List UInt8} (h : pall w g p m (0, low) both = none) : pend s base w g p m low both q = ([], [], 2) := by unfold pend; rw [h]; rfl
theorem pend_some {s : Bool} {base : Int} {w g p m a : Nat} {low both lf : List Nat} {q : List UInt8} (h : pall w g p m (0, low) both = some (a, lf)) : pend s base w g p m low both q = match omap (gnext s false base) lf with | none => ([], [], 2) | some xs => (xs, q, 0) := by unfold pend; rw [h]; rfl
theorem pall_take_none {w g p m : Nat} {st : Nat × List Nat} {both : List Nat} {k : Nat} (h : pall w g p m st (both.take k) = none) : pall w g p m st both = none := by
  rw [← List.take_append_drop k both, pall_append, h]
theorem pall_next {w g p m : Nat} {st st' : Nat × List Nat} {both : List Nat} {k v : Nat} (hk : k < both.length) (hv : v = both[k]) (h : pall w g p m st (both.take k) = some st') : pall w g p m st (both.take (k + 1)) = pstep w g p m st' v := by
  rw [List.take_succ_eq_append_getElem hk, pall_snoc, h, ← hv]
/-- One pair, of its parts. -/
theorem pstep_eq {w g p m at_ v gap patch : Nat} {low : List Nat} (hg : gap = v / 2 ^ p) (hp : patch = v % 2 ^ p) : pstep w g p m (at_, low) v = if gap < 2 ^ g ∧ at_ + gap < m ∧ (wbits patch + w ≤ 63 ∨ patch = 0) then some (at_ + gap, low.set (at_ + gap) (low.getD (at_ + gap) 0 ^^^ (patch * 2 ^ w))) else none := by
  unfold pstep
  rw [← hg, ← hp]
/-- A patch and the number there are below 2^64. -/
theorem patch_lt {w patch : Nat} (hp : patch < 2 ^ 64) (h : wbits patch + w ≤ 63 ∨ patch = 0) : patch * 2 ^ w < 2 ^ 63 := by
  rcases h with h | h
  · have h1 := wbits_lt hp
    have h2 : patch * 2 ^ w < 2 ^ wbits patch * 2 ^ w := Nat.mul_lt_mul_of_pos_right h1 (Nat.two_pow_pos _)
    rw [← Nat.pow_add] at h2
    exact Nat.lt_of_lt_of_le h2 (Nat.pow_le_pow_right (by omega) h)
  · rw [h, Nat.zero_mul]; exact Nat.two_pow_pos _
end Go.Proofs.YtblpkmmhmdpkjaaGreatDoor

/- Contracts of layer 10's reference: above, pairs, based. -/











namespace Go.Proofs.YtblpkmmhmdpkjaaGreatDoor

open Go.RowKit

theorem pst_len (w : Nat) (us : List Nat) : ∀ k, (pst w us k).1.length ≤ k + (pst w us k).2 / 255
  | 0 => by simp [pst]
  | k + 1 => by
    have ih := pst_len w us k
    have hl := pst_last w us k
    by_cases h : us.getD k 0 / 2 ^ w = 0
    · rw [pst_skip h]; omega
    · rw [pst_more h]
      simp only [List.length_append, List.length_replicate, List.length_singleton]
      omega
theorem be_get : ∀ (m N j : Nat) (h : j < (be m N).length), (be m N)[j] = UInt8.ofNat (N / 256 ^ (m - 1 - j) % 256)
  | m + 1, N, 0, _ => by simp [be]
  | m + 1, N, j + 1, h => by
    have h' : j < (be m N).length := by simpa [be] using h
    have := be_get m N j h'
    simp only [be, List.getElem_cons_succ]
    rw [this, show m + 1 - 1 - (j + 1) = m - 1 - j by omega]
/-- The highest byte bears the sign. -/
theorem be_signed {n S b0 : Nat} (h1 : 1 ≤ n) (hS : S < 2 ^ (8 * n - 1)) (hb : b0 = S / 256 ^ (n - 1) % 256) : b0 < 128 ∧ (be n S).set 0 (UInt8.ofNat (b0 + 128)) = be n (S + 2 ^ (8 * n - 1)) := by
  have hp : 2 ^ (8 * n - 1) = 128 * 256 ^ (n - 1) := by rw [p256, show 8 * n - 1 = 7 + 8 * (n - 1) by omega, Nat.pow_add]
  have hpos : 0 < 256 ^ (n - 1) := Nat.pow_pos (by omega)
  have hlt : S / 256 ^ (n - 1) < 128 := by rw [Nat.div_lt_iff_lt_mul hpos, ← hp]; exact hS
  have hb1 : b0 < 128 := by rw [hb]; exact Nat.lt_of_le_of_lt (Nat.mod_le _ _) hlt
  refine ⟨hb1, eq_be (by rw [List.length_set, be_len]) ?_⟩
  have hl : 0 < (be n S).length := by rw [be_len]; omega
  have h2 := bval_set (be n S) 0 (UInt8.ofNat (b0 + 128)) hl
  rw [be_get n S 0 hl, be_len, Nat.sub_zero, ← hb] at h2
  have e1 : (UInt8.ofNat b0).toNat = b0 := byte_low (by omega)
  have e2 : (UInt8.ofNat (b0 + 128)).toNat = b0 + 128 := byte_low (by omega)
  have h3 : bval (be n S) = S := by
    rw [bval_be, Nat.mod_eq_of_lt]
    rw [p256, show 8 * n = (8 * n - 1) + 1 by omega, Nat.pow_succ]
    omega
  rw [e1, e2, h3, Nat.add_mul] at h2
  rw [hp]
  omega
end Go.Proofs.YtblpkmmhmdpkjaaGreatDoor

/- The contract of layer 10's reference's Put. -/





namespace Go.Proofs.YtblpkmmhmdpkjaaGreatDoor

open Go.RowKit

theorem pputE_no {l : List Int} {W : Int} {s : Bool} (h : dplain l s = none ∨ l.length < 1 ∨ 512 < l.length ∨ wcode W < 0 ∨ 64 ≤ W) : pputE l W s = ([], 1) := by unfold pputE; rw [if_pos h]
theorem pputE_ups {l : List Int} {W : Int} {s : Bool} (h : pups l = none) : pputE l W s = ([], 1) := by unfold pputE; split <;> simp [h]
theorem pputE_some {l : List Int} {W : Nat} {s : Bool} {us : List Nat} (h0 : dplain l s ≠ none) (h1 : 1 ≤ l.length) (h2 : l.length ≤ 512) (h3 : 0 ≤ wcode (W : Int)) (h4 : W < 64) (h : pups l = some us) :
    pputE l W s = if pbase l = -9223372036854775808 ∨ 31 < (ppairs W us).length ∨ 64 < pgw (ppairs W us) + ppw (ppairs W us) ∨ 64 < W + ppw (ppairs W us) then ([], 1) else (play (pbase l) us W, 0) := by
  unfold pputE
  rw [if_neg (by rintro (h | h | h | h | h) <;> first | exact h0 h | omega), h, Int.toNat_natCast]
theorem wcode_range {W : Int} (h : 0 ≤ wcode W) : 1 ≤ W ∧ W ≤ 64 := by
  obtain ⟨h1, h2⟩ := wcode_back h
  obtain ⟨c, hc⟩ := Int.eq_ofNat_of_zero_le h
  rw [hc] at h1 h2
  have h3 := wback ⟨c, by omega⟩
  dsimp only at h3
  have h4 := wof_bd (c : Int)
  rw [h1] at h3 h4
  omega
end Go.Proofs.YtblpkmmhmdpkjaaGreatDoor

/- The contract of layer 10's reference's Take. -/









namespace Go.Proofs.YtblpkmmhmdpkjaaGreatDoor

open Go.RowKit

theorem grown_trans {a b c : World} {g : Option Nat} (h1 : a.grownBy b g) (h2 : b.grownBy c g) : a.grownBy c g :=
  ⟨h2.os.trans h1.os, h2.tape.trans h1.tape, h2.output.trans h1.output, Nat.le_trans h1.size h2.size, fun k hk hg => (h2.block k (Nat.lt_of_lt_of_le hk h1.size) hg).trans (h1.block k hk hg)⟩
theorem grown_below {a b : World} {g : Option Nat} (h : Below a.heap.size a b) : a.grownBy b g := ⟨h.os, h.tape, h.output, h.size, fun k hk _ => h.block k hk⟩
theorem below_grownR {B g : Nat} {w a b : World} (h1 : Below B w a) (h2 : a.grownBy b (some g)) (hB : B ≤ g) (hz : B ≤ a.heap.size) : Below B w b :=
  ⟨h2.os.trans h1.os, h2.tape.trans h1.tape, h2.output.trans h1.output, Nat.le_trans h1.size h2.size, fun k hk => (h2.block k (by omega) (by intro e; injection e with e; omega)).trans (h1.block k hk)⟩
theorem own_block {w : World} {base n : Nat} {e : TypeId} {v : Value} {xs : List Value} (h : w.ownsRow base e 1 v n xs) (hn : 1 ≤ n) : ∃ g c, v = .slice (some ⟨g, 0, none⟩) n c ∧ base ≤ g ∧ g < w.heap.size ∧ n ≤ c ∧ c ≤ maxLen := by
  rcases h.2 with ⟨_, h0⟩ | ⟨g, c, cur, h1, h2, h3, h4, h5, _⟩
  · omega
  · exact ⟨g, c, h1, h2, (Array.getElem?_eq_some_iff.1 h3).1, h4, h5⟩
theorem own_not {w : World} {base n g : Nat} {e : TypeId} {v : Value} {xs : List Value} (h : w.ownsRow base e 1 v n xs) (hg : g < base) : v.ownBlock = none ∨ v.ownBlock ≠ some g := by
  rcases h.2 with ⟨h1, _⟩ | ⟨g', c, cur, h1, h2, _⟩
  · left; rw [h1]; rfl
  · right; rw [h1]; intro e; injection e with e; dsimp only at e; omega
end Go.Proofs.YtblpkmmhmdpkjaaGreatDoor

/- patched's own contracts: lowest, isCount, isWidth, and a shape's methods hasRoom and pairWidth. -/







namespace Go.Proofs.YtblpkmmhmdpkjaaGreatDoor

open Go.RowKit

theorem plow_any (n L : Nat) (w : World) (h : n ≤ 64) (hL : L = 2 ^ n - 1) : Calls Tryz.prog 197 #[.int .i64 (n : Int)] w fun e w' => e = .returned (.int .u64 (L : Int)) ∧ w = w' := by
  have h1 : 2 ^ n ≤ 2 ^ 64 := Nat.pow_le_pow_right (by omega) h
  have h2 : 1 ≤ 2 ^ n := Nat.one_le_two_pow
  have h3 : ((2 ^ n : Nat) : Int) = 2 ^ n := by simp
  have HE : Hid (IntKind.u64.wrap (IntKind.u64.wrap (2 ^ n) - 1) = (L : Int)) := Lib.hid (by
    rw [← h3, IntKind.wrap_u64, IntKind.wrap_u64, hL]
    generalize 2 ^ n = p at *
    omega)
  clear h1 h2 h3 hL
  go_enter Tryz.func197, Tryz.ntmps197
  go_wp2
  go_ret
  exact ⟨ret_int HE.out, rfl⟩
theorem pcount_yes (n : Int) (w : World) (h0 : 1 ≤ n) (h1 : n ≤ 512) : Calls Tryz.prog 185 #[.int .i64 n] w fun e w' => e = .returned (.bool true) ∧ w = w' := by
  go_enter Tryz.func185, Tryz.ntmps185
  go_wp2
  go_ret
  exact ⟨rfl, rfl⟩
theorem pcount_no (n : Int) (w : World) (h : n < 1 ∨ 512 < n) : Calls Tryz.prog 185 #[.int .i64 n] w fun e w' => e = .returned (.bool false) ∧ w = w' := by
  rcases h with h | h
  · have h2 : decide (1 ≤ n) = false := by simp; omega
    go_enter Tryz.func185, Tryz.ntmps185
    go_wp2
    go_ret
    exact ⟨rfl, rfl⟩
  · have h2 : decide (n ≤ 512) = false := by simp; omega
    have h3 : decide (1 ≤ n) = true := by simp; omega
    go_enter Tryz.func185, Tryz.ntmps185
    go_wp2
    go_ret
    exact ⟨rfl, rfl⟩
theorem pisw_any (W : Int) (w : World) (ht : WTab w) : Calls Tryz.prog 186 #[.int .i64 W] w fun e w' => e = .returned (.bool (decide (W < 64) && decide (0 ≤ wcode W))) ∧ w = w' := by
  have HC := Lib.hid (code_any W w ht)
  obtain ⟨c, hc⟩ : ∃ c, c = wcode W := ⟨_, rfl⟩
  rw [← hc] at HC ⊢
  clear ht hc
  by_cases h : W < 64
  · have h1 : decide (W < 64) = true := decide_eq_true h
    rw [h1, Bool.true_and]
    obtain ⟨d, hd⟩ : ∃ d, d = decide (0 ≤ c) := ⟨_, rfl⟩
    have hd' := hd.symm
    rw [hd']
    clear hd h
    go_enter Tryz.func186, Tryz.ntmps186
    go_wp2_with (go_at_call 142; refine HC.out.mono ?_; rintro e w' ⟨rfl, rfl⟩)
    go_ret
    exact ⟨rfl, rfl⟩
  · have h1 : decide (W < 64) = false := decide_eq_false h
    rw [h1, Bool.false_and]
    clear h
    go_enter Tryz.func186, Tryz.ntmps186
    go_wp2
    go_ret
    exact ⟨rfl, rfl⟩
/-- A shape's cells. -/
def shc (m W n p g t : Int) : List Value := [.int .i64 m, .int .i64 W, .int .i64 n, .int .i64 p, .int .i64 g, .int .i64 t]
def shv (m W n p g t : Int) : Value := .agg (shc m W n p g t).toArray
theorem shc_one (m W n p g t : Int) : ∀ u ∈ shc m W n p g t, u.oneCell' = true := by
  intro u hu
  simp only [shc, List.mem_cons, List.not_mem_nil, or_false] at hu
  rcases hu with h | h | h | h | h | h <;> (subst h; rfl)
theorem proom_any (m W n p g t : Int) (w : World) (hp : 0 ≤ p ∧ p ≤ 1000) (hg : 0 ≤ g ∧ g ≤ 1000) : Calls Tryz.prog 191 #[shv m W n p g t] w fun e w' => e = .returned (.bool (decide (g + p ≤ 64))) ∧ Below w.heap.size w w' := by
  have hw : IntKind.i64.wrap (g + p) = g + p := by rw [IntKind.wrap_i64]; omega
  obtain ⟨x, hx⟩ : ∃ x, x = g + p := ⟨_, rfl⟩
  rw [← hx] at hw ⊢
  have hx' := hx.symm
  obtain ⟨d, hd⟩ : ∃ d, d = decide (x ≤ 64) := ⟨_, rfl⟩
  have hd' := hd.symm
  rw [hd']
  clear hx hd hp hg
  unfold shv shc
  go_enter Tryz.func191, Tryz.ntmps191
  go_wp2
  go_ret
  exact ⟨rfl, (Below.refl _ _).alloc (Nat.le_refl _) _⟩
theorem ppair_any (m W n p g t : Int) (w : World) (ht : WTab w) (hp : 0 ≤ p ∧ p ≤ 1000) (hg : 0 ≤ g ∧ g ≤ 1000) : Calls Tryz.prog 162 #[shv m W n p g t] w fun e w' => e = .returned (.int .i64 (wclosest (g + p))) ∧ Below w.heap.size w w' := by
  have hw : IntKind.i64.wrap (g + p) = g + p := by rw [IntKind.wrap_i64]; omega
  obtain ⟨x, hx⟩ : ∃ x, x = g + p := ⟨_, rfl⟩
  rw [← hx] at hw ⊢
  have hx' := hx.symm
  have HC := Lib.hid (fun W (h : WTab W) => closest_any x W h)
  have HT := Lib.hid (ht.below ((Below.refl w.heap.size w).alloc (Nat.le_refl _) (.cells (shc m W n p g t).toArray 181)) ht.lt)
  unfold shc at HT
  clear hx hp hg ht
  unfold shv shc
  go_enter Tryz.func162, Tryz.ntmps162
  go_wp2_with (go_at_call 138; refine (HC.out _ HT.out).mono ?_; rintro e w' ⟨rfl, rfl⟩)
  go_ret
  exact ⟨rfl, (Below.refl _ _).alloc (Nat.le_refl _) _⟩
end Go.Proofs.YtblpkmmhmdpkjaaGreatDoor

/- patched's own contracts: digitsOf (a base as bytes), number (the base that bytes are). -/





namespace Go.Proofs.YtblpkmmhmdpkjaaGreatDoor

open Go.RowKit

theorem gdiff_base {base : Int} (hb : inInt base) (hne : base ≠ -9223372036854775808) : gdiff 0 base = (psize base, decide (base < 0), true) := by
  unfold inInt at hb
  unfold psize
  rcases gdiff_cases 0 base with ⟨_, k⟩ | ⟨k1, _, k⟩ | ⟨k1, _, k⟩
  · omega
  · rw [k, decide_eq_true k1]
  · rw [k, decide_eq_false (by omega)]
theorem gdiff_least : gdiff 0 (-9223372036854775808) = (0, false, false) := by decide
theorem digits_no (w : World) : Calls Tryz.prog 187 #[.int .i64 (-9223372036854775808)] w fun e w' => e = .returned (.tuple #[.slice none 0 0, .bool false]) ∧ Below w.heap.size w w' := by
  have HD := Lib.hid (tdiff_any 0 (-9223372036854775808) w (by unfold inInt; omega) (by unfold inInt; omega))
  rw [gdiff_least] at HD
  go_enter Tryz.func187, Tryz.ntmps187
  go_wp2_with fail
  refine HD.out.mono ?_
  rintro e w1 ⟨rfl, hb1⟩
  go_wp2
  go_ret2
  exact ⟨rfl, hb1⟩
/-- The bytes are laid from the last one on. -/
def DgRel (S n g : Nat) (w : World) (i : Value) (wr : World) : Prop := ∃ k : Nat, k ≤ n ∧ i = .int .i64 (k : Int) ∧ Row wr g 5 ((List.replicate (n - k) (0 : UInt8) ++ be k S).map bv) ∧ Below w.heap.size w wr
theorem dg_step {S n k : Nat} (hk : k < n) : (List.replicate (n - k) (0 : UInt8) ++ be k S).set (n - 1 - k) (UInt8.ofNat (S / 256 ^ k % 256)) = List.replicate (n - (k + 1)) 0 ++ be (k + 1) S := by
  obtain ⟨m, hm⟩ : ∃ m, n - k = m + 1 := ⟨n - k - 1, by omega⟩
  rw [hm, show n - 1 - k = m by omega, show n - (k + 1) = m by omega, List.replicate_succ', List.append_assoc, List.set_append_right _ _ (by simp), List.length_replicate, Nat.sub_self]
  rfl
def RetDg (base : Int) (w : World) (e : Ending) (w' : World) : Prop :=
  ∃ g, e = .returned (.tuple #[.slice (some ⟨g, 0, none⟩) (pn base) (pn base), .bool true]) ∧ w.heap.size ≤ g ∧ Row w' g 5 ((pbased base).map bv) ∧ Below w.heap.size w w'
set_option maxHeartbeats 2000000 in
set_option maxRecDepth 100000 in
theorem digits_yes (base : Int) (w : World) (hb : inInt base) (hne : base ≠ -9223372036854775808) : Calls Tryz.prog 187 #[.int .i64 base] w (RetDg base w) := by
  obtain ⟨_, hlt⟩ := psize_base hb hne
  obtain ⟨n1, n8, hS8⟩ := pn_bd hlt
  have hg := gdiff_base hb hne
  unfold RetDg
  obtain ⟨S, hS⟩ : ∃ S, S = psize base := ⟨_, rfl⟩
  obtain ⟨n, hn⟩ : ∃ n, n = pn base := ⟨_, rfl⟩
  obtain ⟨f, hf⟩ : ∃ f, f = decide (base < 0) := ⟨_, rfl⟩
  rw [← hS, ← hf] at hg
  have HD := Lib.hid (tdiff_any 0 base w (by unfold inInt; omega) hb)
  rw [hg] at HD
  have hpb : pbased base = be n (S + if f = true then 2 ^ (8 * n - 1) else 0) := by
    unfold pbased
    rw [← hS, ← hn]
    congr 2
    rw [hf]
    by_cases h : base < 0
    · rw [if_pos h, if_pos (by simpa using h)]
    · rw [if_neg h, if_neg (by simpa using h)]
  obtain ⟨B, hB⟩ : ∃ B, B = wbits S := ⟨_, rfl⟩
  have HBI := Lib.hid (fun W => bits_any S W (by rw [hS]; show psize base < 18446744073709551616; omega))
  rw [← hB] at HBI
  obtain ⟨Q, hQ⟩ : ∃ Q, Q = B / 8 := ⟨_, rfl⟩
  have hnq : n = Q + 1 := by rw [hn, hQ, hB, hS]; rfl
  have hBq : (B : Int) / 8 = (Q : Int) := by omega
  rw [← hn] at n1 n8 hS8 ⊢
  rw [← hS] at hS8
  have HPB := Lib.hid hpb
  have HS8 := Lib.hid hS8
  have hQn : (Q : Int) + 1 = (n : Int) := by omega
  have hnw : IntKind.i64.wrap (n : Int) = (n : Int) := by rw [IntKind.wrap_i64]; omega
  clear hlt hS hn hf hg hpb hB hQ hnq hS8 hb hne
  go_enter Tryz.func187, Tryz.ntmps187
  go_wp2_with fail
  refine HD.out.mono ?_
  rintro e w1 ⟨rfl, hb1⟩
  have HB1 := Lib.hid hb1
  have hz1 := hb1.size
  clear hb1
  go_wp2_with (first | (go_at_call 171; refine (HBI.out _).mono ?_; rintro e w' ⟨rfl, rfl⟩) | (refine wpList_make elemB rfl _ _ rfl _ _ _ _ n w w.heap.size rfl rfl (by first | exact hQn | rfl) (by first | exact hQn | rfl) (by omega) (by omega) HB1.out hz1 ?_))
  intro w2 hr2 hb2
  have HS := Lib.hid (show DgRel S n w1.heap.size w (.int .i64 0) w2 from ⟨0, Nat.zero_le _, rfl, by rw [Nat.sub_zero]; simpa [be] using hr2, hb2⟩)
  clear hr2 hb2
  go_wp2
  go_loopw [24] (DgRel S n w1.heap.size w) (fun i _ => n - (intOf i).toNat)
  case atStart => exact HS.out
  case round =>
    obtain ⟨k, hk, rfl, hr, hbw⟩ := hrel
    have HBW := Lib.hid hbw
    have hgr := hr.lt
    by_cases hlt : k < n
    · have hlti : (k : Int) < (n : Int) := by omega
      obtain ⟨I, hI⟩ : ∃ I, I = n - 1 - k := ⟨_, rfl⟩
      have hIi : (n : Int) - 1 - (k : Int) = (I : Int) := by omega
      have hn1 : IntKind.i64.wrap ((n : Int) - 1) = (n : Int) - 1 := by rw [IntKind.wrap_i64]; omega
      have hIw : IntKind.i64.wrap (I : Int) = (I : Int) := by rw [IntKind.wrap_i64]; omega
      obtain ⟨T, hT⟩ : ∃ T, T = S / 2 ^ (8 * k) := ⟨_, rfl⟩
      obtain ⟨M, hM⟩ : ∃ M, M = 8 * k := ⟨_, rfl⟩
      have hMi : 8 * (k : Int) = (M : Int) := by omega
      have hMw : IntKind.i64.wrap (M : Int) = (M : Int) := by rw [IntKind.wrap_i64]; omega
      have hsh : (S : Int) / 2 ^ M = (T : Int) := by rw [hT, hM]; simp
      obtain ⟨C, hC⟩ : ∃ C, C = T % 256 := ⟨_, rfl⟩
      have hC256 : C < 256 := by omega
      have hCw : IntKind.u8.wrap (T : Int) = (C : Int) := by rw [IntKind.wrap_u8]; omega
      have hTm : (T : Int) % 256 = (C : Int) := by omega
      have hset := row_set hr I C hC256
      rw [hC, hT, ← p256, hI, dg_step hlt, ← hI, p256, ← hT, ← hC] at hset
      have HSET := Lib.hid hset
      have HB3 := Lib.hid (hbw.setCell (p := ⟨w1.heap.size, I, none⟩) hz1 (.int .u8 (C : Int)))
      have hcu : ∃ u, wr.cell? ⟨w1.heap.size, I, none⟩ = some u := by
        rw [hr.cell]
        exact ⟨_, List.getElem?_eq_getElem (by simp [be_len]; omega)⟩
      obtain ⟨u0, hcu⟩ := hcu
      have hfr := hr.free I
      have hIn : (I : Int) < (n : Int) := by omega
      have hM64 : M < 64 := by omega
      clear hset hr hT hC hI hM hbw
      go_wp2
      go_roundw
      case rel => exact ⟨k + 1, hlt, by go_num, HSET.out, HB3.out⟩
      case measure => simp [intOf]; omega
    · obtain rfl : k = n := by omega
      rw [Nat.sub_self, List.replicate_zero, List.nil_append] at hr
      clear hbw
      cases f with
      | false =>
        have HE : Hid (pbased base = be k S) := Lib.hid (by rw [HPB.out]; rfl)
        have HO := Lib.hid hr
        clear hr
        go_wp2
        go_ret2
        rw [HE.out]
        exact ⟨_, rfl, hz1, HO.out, HBW.out⟩
      | true =>
        have HE : Hid (pbased base = be k (S + 2 ^ (8 * k - 1))) := Lib.hid (by rw [HPB.out]; rfl)
        obtain ⟨b0, hb0⟩ : ∃ b0, b0 = S / 256 ^ (k - 1) % 256 := ⟨_, rfl⟩
        obtain ⟨hb1, hbe⟩ := be_signed n1 HS8.out hb0
        have hc0 : wr.cell? ⟨w1.heap.size, 0, none⟩ = some (.int .u8 (b0 : Int)) := by
          rw [hr.cell, List.getElem?_map, List.getElem?_eq_getElem (by rw [be_len]; omega), be_get, Nat.sub_zero, ← hb0]
          show some (bv (UInt8.ofNat b0)) = _
          rw [← bv_low7 (by omega)]
        have hf0 := hr.free 0
        obtain ⟨C, hC⟩ : ∃ C, C = b0 + 128 := ⟨_, rfl⟩
        have hor : bits .or .u8 (b0 : Int) 128 = (C : Int) := by rw [u8_or128 _ (by omega) (by omega)]; omega
        have hst := row_set hr 0 C (by omega)
        rw [hC, hbe, ← hC] at hst
        have HO := Lib.hid hst
        have HB := Lib.hid (HBW.out.setCell (p := ⟨w1.heap.size, 0, none⟩) hz1 (.int .u8 (C : Int)))
        have hn0 : (0 : Int) < (k : Int) := by omega
        clear hst hr hb0 hbe hC
        go_wp2
        go_ret2
        rw [HE.out]
        exact ⟨_, rfl, hz1, HO.out, HB.out⟩
/-- Without its highest bit. -/
theorem and_below {X M : Nat} (hM : M ≤ 63) (h : X < 2 ^ (M + 1)) : X &&& (18446744073709551615 - 2 ^ M) = X % 2 ^ M := by
  have hp : 2 ^ M < 2 ^ 64 := Nat.pow_lt_pow_right (by omega) (by omega)
  rw [show 18446744073709551615 - 2 ^ M = 2 ^ 64 - (2 ^ M + 1) by omega]
  refine Nat.eq_of_testBit_eq fun i => ?_
  rw [Nat.testBit_and, Nat.testBit_two_pow_sub_succ hp, Nat.testBit_mod_two_pow, Nat.testBit_two_pow]
  by_cases h1 : i < M
  · rw [decide_eq_true (by omega : i < 64), decide_eq_true h1, decide_eq_false (by omega : ¬ M = i)]; simp
  · rw [decide_eq_false h1, Bool.false_and]
    by_cases h2 : M = i
    · subst h2; simp
    · have : X.testBit i = false := Nat.testBit_lt_two_pow (Nat.lt_of_lt_of_le h (Nat.pow_le_pow_right (by omega) (by omega)))
      rw [this, Bool.false_and]
theorem and_top {X M : Nat} (h : X < 2 ^ (M + 1)) : (X &&& 2 ^ M) = if 2 ^ M ≤ X then 2 ^ M else 0 := by
  refine Nat.eq_of_testBit_eq fun i => ?_
  rw [Nat.testBit_and, Nat.testBit_two_pow]
  by_cases h2 : M = i
  · subst h2
    rw [decide_eq_true rfl, Bool.and_true]
    by_cases h3 : 2 ^ M ≤ X
    · rw [if_pos h3, Nat.testBit_two_pow_self, Nat.testBit_eq_decide_div_mod_eq]
      have : X / 2 ^ M = 1 := by
        rw [Nat.pow_succ] at h
        have h4 : X / 2 ^ M < 2 := Nat.div_lt_of_lt_mul (by omega)
        have h5 : 1 ≤ X / 2 ^ M := (Nat.le_div_iff_mul_le (Nat.two_pow_pos M)).2 (by omega)
        omega
      rw [this]; decide
    · rw [if_neg h3, Nat.zero_testBit]
      exact Nat.testBit_lt_two_pow (by omega)
  · rw [decide_eq_false h2, Bool.and_false]
    by_cases h3 : 2 ^ M ≤ X
    · rw [if_pos h3, Nat.testBit_two_pow, decide_eq_false h2]
    · rw [if_neg h3, Nat.zero_testBit]
def NrRel (x : List UInt8) (w : World) (u i : Value) (wr : World) : Prop := ∃ k U : Nat, k ≤ x.length ∧ i = .int .i64 (k : Int) ∧ u = .int .u64 (U : Int) ∧ U = bval (x.take k) ∧ wr = w
theorem pmade_sign {x : List UInt8} {X M : Nat} (h1 : 1 ≤ x.length) (h8 : x.length ≤ 8) (hM : M = 8 * x.length - 1) (hX : X = bval x) : gstep 0 (X % 2 ^ M) (decide (2 ^ M ≤ X)) = (pmade x, true) ∧ inInt (pmade x) ∧ X < 2 ^ (M + 1) := by
  have hlt : X < 2 ^ (M + 1) := by rw [hX, show M + 1 = 8 * x.length by omega, ← p256]; exact bval_lt x
  have h63 : 2 ^ M ≤ 2 ^ 63 := Nat.pow_le_pow_right (by omega) (by omega)
  have hR : X % 2 ^ M < 2 ^ M := Nat.mod_lt _ (Nat.two_pow_pos M)
  have e : pmade x = if 2 ^ M ≤ X then -((X % 2 ^ M : Nat) : Int) else ((X % 2 ^ M : Nat) : Int) := by unfold pmade; rw [← hM, ← hX]
  rw [e]
  generalize X % 2 ^ M = S at *
  generalize 2 ^ M = P at *
  refine ⟨?_, ?_, hlt⟩
  · unfold gstep
    rw [if_neg (by omega)]
    by_cases h : P ≤ X
    · rw [if_pos (decide_eq_true h), if_neg (by omega), if_pos h]; try simp
    · rw [if_neg (by simpa using h), if_neg (by omega), if_neg h]; try simp
  · unfold inInt
    split <;> omega
set_option maxHeartbeats 2000000 in
set_option maxRecDepth 100000 in
theorem number_any (x : List UInt8) (v : Value) (w : World) (hv : IsB x v w) (h1 : 1 ≤ x.length) (h8 : x.length ≤ 8) : Calls Tryz.prog 161 #[v] w fun e w' => e = .returned (.int .i64 (pmade x)) ∧ Below w.heap.size w w' := by
  rw [isB_iff] at hv
  obtain ⟨A, n, c, rfl⟩ := hv.shape
  have HN := Lib.hid hv.parts.1
  have HV := Lib.hid hv
  have hn1 : 1 ≤ n := by have := HN.out; omega
  have hn8 : n ≤ 8 := by have := HN.out; omega
  obtain ⟨M, hM⟩ : ∃ M, M = 8 * n - 1 := ⟨_, rfl⟩
  obtain ⟨hst, hin, hX⟩ := pmade_sign (M := M) (X := bval x) h1 h8 (by rw [HN.out]; exact hM) rfl
  have HST := Lib.hid hst
  have HX := Lib.hid hX
  have hMn : 8 * (n : Int) - 1 = (M : Int) := by omega
  have hw8 : IntKind.i64.wrap (8 * (n : Int)) = 8 * (n : Int) := by rw [IntKind.wrap_i64]; omega
  have hMw : IntKind.i64.wrap (M : Int) = (M : Int) := by rw [IntKind.wrap_i64]; omega
  have hM64 : M ≤ 63 := by omega
  have HS := Lib.hid (show NrRel x w (.int .u64 0) (.int .i64 0) w from ⟨0, 0, Nat.zero_le _, rfl, rfl, by simp [bval], rfl⟩)
  clear hv h1 h8 hst hin hX hM
  go_enter Tryz.func161, Tryz.ntmps161
  go_wp2
  go_loopw [3, 11] (NrRel x w) (fun _ i _ => n - (intOf i).toNat)
  case atStart => exact HS.out
  case round =>
    obtain ⟨k, U, hk, rfl, rfl, hU, rfl⟩ := hrel
    have HU := Lib.hid hU
    have hkn : k ≤ n := by have := HN.out; omega
    clear hU hk
    by_cases hlt : k < n
    · have hkl : k < x.length := by have := HN.out; omega
      have hlti : (k : Int) < (n : Int) := by omega
      obtain ⟨ad, rfl, had, hcell⟩ := HV.out.at hkl
      obtain ⟨d, hd⟩ : ∃ d, d = x[k].toNat := ⟨_, rfl⟩
      have hcx : wr.cell? (ad.add k) = some (.int .u8 (d : Int)) := by rw [hcell, hd]; rfl
      have hd8 : d < 256 := by rw [hd]; exact UInt8.toNat_lt _
      have hU7 : U < 72057594037927936 := by
        rw [HU.out]
        refine Nat.lt_of_lt_of_le (bval_lt _) ?_
        have : 256 ^ (x.take k).length ≤ 256 ^ 7 := Nat.pow_le_pow_right (by omega) (by rw [List.length_take]; omega)
        omega
      obtain ⟨V, hV⟩ : ∃ V, V = U * 256 := ⟨_, rfl⟩
      have hor : bits .or .u64 (V : Int) (d : Int) = ((V + d : Nat) : Int) := or_word 8 V d (by omega) hd8 (by omega)
      have hshl : IntKind.u64.wrap ((U : Int) * 256) = (V : Int) := by rw [IntKind.wrap_u64]; omega
      obtain ⟨Y, hY⟩ : ∃ Y, Y = V + d := ⟨_, rfl⟩
      rw [← hY] at hor
      have hdw : IntKind.u64.wrap (d : Int) = (d : Int) := by rw [IntKind.wrap_u64]; omega
      have HN1 := Lib.hid (show Y = bval (x.take (k + 1)) by rw [bval_snoc_at x k hkl, ← HU.out, ← hd]; omega)
      clear hcell hd hY hU7 hV
      go_wp2
      go_roundw
      case rel => exact ⟨k + 1, Y, hkl, by go_num, rfl, HN1.out, rfl⟩
      case measure => simp [intOf]; omega
    · obtain rfl : k = n := by omega
      have hXU : U = bval x := by have := HU.out; rwa [List.take_of_length_le (by have := HN.out; omega)] at this
      rw [← hXU] at HST HX
      obtain ⟨P, hP⟩ : ∃ P, P = 2 ^ M := ⟨_, rfl⟩
      obtain ⟨R, hR⟩ : ∃ R, R = U % 2 ^ M := ⟨_, rfl⟩
      have hPb : P ≤ 9223372036854775808 := by
        rw [hP]
        exact Nat.pow_le_pow_right (n := 2) (i := M) (j := 63) (by omega) hM64
      have hU64 : U < 18446744073709551616 := by
        have h := HX.out
        rw [Nat.pow_succ, ← hP] at h
        omega
      have hRP : R < P := by rw [hR, hP]; exact Nat.mod_lt _ (Nat.two_pow_pos M)
      have hpi : (2 : Int) ^ M = (P : Int) := by rw [hP]; simp
      have hpw : IntKind.u64.wrap (P : Int) = (P : Int) := by rw [IntKind.wrap_u64]; omega
      have hand : bits .andNot .u64 (U : Int) (P : Int) = (R : Int) := by
        rw [u64_andNot_nat _ _ hU64 (by omega), hP, and_below hM64 HX.out, hR]
      obtain ⟨Z, hZ⟩ : ∃ Z, Z = (U &&& P) := ⟨_, rfl⟩
      have hand2 : bits .and .u64 (U : Int) (P : Int) = (Z : Int) := by
        rw [u64_and_nat _ _ hU64 (by omega), hZ]
      have hZt : ((Z : Int) != 0) = decide (2 ^ M ≤ U) := by
        rw [hZ, hP, and_top HX.out, ← hP]
        by_cases h : P ≤ U
        · rw [if_pos h, decide_eq_true h]
          have : 0 < P := by omega
          simp; omega
        · rw [if_neg h, decide_eq_false h]; rfl
      obtain ⟨f, hf⟩ : ∃ f, f = decide (2 ^ M ≤ U) := ⟨_, rfl⟩
      rw [← hf] at hZt HST
      rw [← hR] at HST
      have HSP := Lib.hid (tstep_any 0 (R : Int) f wr (by unfold inInt; omega) (by omega) (by omega))
      rw [Int.toNat_natCast, HST.out] at HSP
      clear hXU hP hR hPb hU64 hRP hZ hf
      go_wp2_with (go_at_call 195; refine HSP.out.mono ?_; rintro e w1 ⟨rfl, hb1⟩)
      go_ret
      exact ⟨rfl, hb1⟩
end Go.Proofs.YtblpkmmhmdpkjaaGreatDoor
