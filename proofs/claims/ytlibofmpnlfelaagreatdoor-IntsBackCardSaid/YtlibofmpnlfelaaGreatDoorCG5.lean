/- Texts that the claims of this seat share, part 5: TRep TPack TNum TUnp TGlue TPutO TIs PPlain. -/
import Derived.Test.YtlibofmpnlfelaaGreatDoorCG4
/- delta's own contracts: slices.Repeat at differences. -/





namespace Go.Proofs.YtlibofmpnlfelaaGreatDoor

open Go.RowKit

def reps (k : Nat) (d : Nat × Bool) : List Value := (List.replicate k d).flatMap dc
theorem reps_len (k : Nat) (d : Nat × Bool) : (reps k d).length = k * 2 := by unfold reps; rw [dflat_len, List.length_replicate]
theorem reps_add (k j : Nat) (d : Nat × Bool) : reps (k + j) d = reps k d ++ reps j d := by unfold reps; rw [← List.flatMap_append, List.replicate_append_replicate]
theorem reps_one (k : Nat) (d : Nat × Bool) : ∀ u ∈ reps k d, u.oneCell' = true := dcs_one _
theorem reps_take {k j : Nat} (d : Nat × Bool) (h : j ≤ k) (r : List Value) : (reps k d ++ r).take (j * 2) = reps j d := by
  obtain ⟨i, rfl⟩ : ∃ i, k = j + i := ⟨k - j, by omega⟩
  rw [reps_add, List.append_assoc, List.take_append_of_le_length (by rw [reps_len]; exact Nat.le_refl _), List.take_of_length_le (by rw [reps_len]; exact Nat.le_refl _)]
/-- A copy of what stands in front behind it. -/
theorem reps_splice {k j i e : Nat} (d : Nat × Bool) (r : List Value) (hk : k ≤ i) (_hj : j ≤ i) (he : i * 2 + e = k * 2 + j * 2) :
    (reps i d ++ r).take (k * 2) ++ reps j d ++ (reps i d ++ r).drop (k * 2 + (reps j d).length) = reps (k + j) d ++ r.drop e := by
  rw [reps_take d hk r, ← reps_add, reps_len, List.drop_append, reps_len, List.drop_of_length_le (by rw [reps_len]; omega), List.nil_append, show k * 2 + j * 2 - i * 2 = e by omega]
theorem row_cells {w : World} {g : Nat} {t : TypeId} {cs : List Value} (h : Row w g t cs) : ∀ j v, cs[j]? = some v → w.cell? ((⟨g, 0, none⟩ : Addr).add j) = some v := by
  intro j v hj
  have h1 := h.cell j
  rw [hj] at h1
  rw [← h1]
  congr 1
  unfold Addr.add
  split <;> simp_all
def RpRel (d : Nat × Bool) (g m : Nat) (w : World) (n : Value) (wr : World) : Prop := ∃ (k : Nat) (rest : List Value), 1 ≤ k ∧ k ≤ m ∧ n = .int .i64 (k : Int) ∧ rest.length = (m - k) * 2 ∧ Row wr g 167 (reps k d ++ rest) ∧ Below w.heap.size w wr
theorem slice_from {w : World} {g k m : Nat} (h : k < m) : (Instr.sliceAt 160 (.slice (some ⟨g, 0, none⟩) m m) (some (.int .i64 (k : Int))) none none).run Tryz.prog w = .ok (.slice (some ⟨g, k * 2, none⟩) (m - k) (m - k)) w := by
  have ht := elemD.under
  have he : Tryz.prog.elem 160 = 167 := by simp [Program.elem, ht]
  rw [run_sliceAt_slice w _ _ _ _ _ (by rw [he]; exact ht), run_slice_l w _ _ m m (by rw [he]; exact ht) .i64 (k : Int) (by omega) (by omega), he, elemD.size_]
  have hne : ¬ m = k := by omega
  simp [sliced, Addr.add, hne]
  intro h; omega
theorem slice_upto {w : World} {g k m : Nat} (h : k ≤ m) : (Instr.sliceAt 160 (.slice (some ⟨g, 0, none⟩) m m) none (some (.int .i64 (k : Int))) none).run Tryz.prog w = .ok (.slice (some ⟨g, 0, none⟩) k m) w := by
  have ht := elemD.under
  have he : Tryz.prog.elem 160 = 167 := by simp [Program.elem, ht]
  rw [run_sliceAt_slice w _ _ _ _ _ (by rw [he]; exact ht), run_slice_h w _ _ m m (by rw [he]; exact ht) .i64 (k : Int) (by omega) (by omega), he, elemD.size_]
  simp [sliced, Addr.add]
set_option maxHeartbeats 4000000 in
set_option maxRecDepth 100000 in
theorem repeat_any (d : Nat × Bool) (g1 c m : Nat) (w : World) (hr : Row w g1 167 (dc d)) (h1 : 1 ≤ m) (hm : m ≤ 1000) :
    Calls Tryz.prog 183 #[.slice (some ⟨g1, 0, none⟩) 1 c, .int .i64 (m : Int)] w
      fun e w' => ∃ g, e = .returned (.slice (some ⟨g, 0, none⟩) m m) ∧ w.heap.size ≤ g ∧ Row w' g 167 (reps m d) ∧ Below w.heap.size w w' := by
  have HM := Lib.hid (Tryz.bits_Mul 1 m (by omega) (by omega) w)
  rw [Nat.one_mul, Nat.div_eq_of_lt (by omega), Nat.mod_eq_of_lt (by omega)] at HM
  have HR := Lib.hid hr
  have hmi : IntKind.u64.wrap (m : Int) = (m : Int) := by rw [IntKind.wrap_u64]; omega
  have hmj : IntKind.i64.wrap (m : Int) = (m : Int) := by rw [IntKind.wrap_i64]; omega
  have hm1 : 1 ≤ m := h1
  have hc1 : decide ((9223372036854775807 : Int) < (m : Int)) = false := decide_eq_false (by omega)
  go_enter Tryz.func183, Tryz.ntmps183
  go_wp2_with (first | (go_at_call 169; refine HM.out.mono ?_; rintro e w' ⟨rfl, hw'⟩; rw [hw']) | (refine wpList_makeW elemD (dc (0, false)) rfl rfl _ _ rfl _ _ _ _ m w w.heap.size rfl rfl rfl rfl (by omega) (by omega) (Below.refl _ _) (Nat.le_refl _) ?_))
  intro w2 hr2 hb2
  have HR2 := Lib.hid (HR.out.below hb2 HR.out.lt)
  have HNEW := Lib.hid (show ((List.replicate m (dc (0, false))).flatten).take 0 ++ dc d ++ ((List.replicate m (dc (0, false))).flatten).drop (0 + (dc d).length) = reps 1 d ++ ((List.replicate m (dc (0, false))).flatten).drop 2 by
    rw [List.take_zero, List.nil_append, Nat.zero_add, dc_len]; rfl)
  have hlen : ((List.replicate m (dc (0, false))).flatten).length = m * 2 := by rw [← flat_replicate (f := dc) m (0, false), dflat_len, List.length_replicate]
  have HLEN := Lib.hid hlen
  clear hlen hr h1
  go_wp2_with (refine wpList_copyW elemD rfl _ _ rfl w.heap.size 0 m m ⟨g1, 0, none⟩ 1 c _ (dc d) _ HNEW.out 1 w.heap.size w rfl rfl hr2 (Nat.min_eq_left (by omega)) rfl (row_cells HR2.out) (dc_one d) (by rw [HLEN.out, dc_len]; omega) hb2 (Nat.le_refl _) ?_)
  intro w3 hr3 hb3
  have HS := Lib.hid (show RpRel d w.heap.size m w (.int .i64 1) w3 from ⟨1, _, Nat.le_refl _, by omega, rfl, by rw [List.length_drop, HLEN.out]; omega, hr3, hb3⟩)
  clear hr2 hb2 hr3 hb3
  go_wp2
  go_loopw [8] (RpRel d w.heap.size m w) (fun i _ => m - (intOf i).toNat)
  case atStart => exact HS.out
  case round =>
    obtain ⟨k, rest, hk1, hkm, rfl, hrl, hrow, hbw⟩ := hrel
    have HRL := Lib.hid hrl
    have HROW := Lib.hid hrow
    have HB := Lib.hid hbw
    clear hrl hrow hbw
    by_cases hlt : k < m
    · have hlti : (k : Int) < (m : Int) := by omega
      obtain ⟨j, hj⟩ : ∃ j, j = min k (m - k) := ⟨_, rfl⟩
      have hj1 : 1 ≤ j := by omega
      have hjk : j ≤ k := by omega
      have hjm : k + j ≤ m := by omega
      have HJ := Lib.hid hj
      clear hj
      obtain ⟨cur, hcur⟩ : ∃ cur, cur = reps k d ++ rest := ⟨_, rfl⟩
      obtain ⟨new, hnew⟩ : ∃ new, new = reps (k + j) d ++ rest.drop (j * 2) := ⟨_, rfl⟩
      rw [← hcur] at HROW
      have HSC := Lib.hid (show cur.take (k * 2) ++ reps j d ++ cur.drop (k * 2 + (reps j d).length) = new by rw [hcur, hnew]; exact reps_splice d rest (Nat.le_refl _) hjk rfl)
      have HSN := Lib.hid (show new.take (k * 2) ++ reps j d ++ new.drop (k * 2 + (reps j d).length) = new by
        rw [hnew, reps_splice (e := 0) d (rest.drop (j * 2)) (by omega) (by omega) (by omega), List.drop_zero])
      have HTC := Lib.hid (show cur.take (j * 2) = reps j d by rw [hcur, reps_take d hjk])
      have HTN := Lib.hid (show new.take (j * 2) = reps j d by rw [hnew, reps_take d (by omega)])
      have HLC := Lib.hid (show cur.length = m * 2 by rw [hcur, List.length_append, reps_len, HRL.out]; omega)
      have HLN := Lib.hid (show new.length = m * 2 by rw [hnew, List.length_append, reps_len, List.length_drop, HRL.out]; omega)
      have HNEW2 := Lib.hid hnew
      clear hcur hnew
      go_wp2
      refine wp_region_listR (turn_later w.heap.size w.heap.size 167 cur new) [.is (.int .i64 (k : Int)), .is (.slice (some ⟨w.heap.size, 0, none⟩) m m), .is (.int .i64 (k : Int)), .is (.slice (some ⟨w.heap.size, k * 2, none⟩) (m - k) (m - k)), .is (.slice (some ⟨w.heap.size, 0, none⟩) m m), .is (.int .i64 (k : Int)), .is (.slice (some ⟨w.heap.size, 0, none⟩) k m),
        .of (fun v W => v = .int .i64 (j : Int) ∧ Row W w.heap.size 167 new) (fun v W W' h hk => ⟨h.1, hk.2.2 h.2⟩), .is (.int .i64 ((k : Int) + (j : Int))), .is (.int .i64 ((k : Int) + (j : Int)))]
        [some 38, some 39, some 40, some 41, some 42, some 43, some 44, some 45, some 46, some 8] (by kernel_rfl) (by kernel_rfl) (by kernel_rfl) (by kernel_rfl) rfl ⟨?_, ?_, ?_, ?_, ?_, ?_, ?_, ?_, ?_, ?_, trivial⟩ ?_
      · intro ρ vs W1 hb1 H
        exact gives_move rfl (H.old 8 _ (by kernel_rfl) rfl) ⟨upd_at _ _ _, (turn_later _ _ _ _ _).refl _⟩
      · intro ρ vs W1 hb1 H
        exact gives_move rfl (H.old 7 _ (by kernel_rfl) rfl) ⟨upd_at _ _ _, (turn_later _ _ _ _ _).refl _⟩
      · intro ρ vs W1 hb1 H
        exact gives_move rfl (H.old 8 _ (by kernel_rfl) rfl) ⟨upd_at _ _ _, (turn_later _ _ _ _ _).refl _⟩
      · intro ρ vs W1 hb1 H
        have e1 : ρ (.tmp 40) = .int .i64 (k : Int) := H.holds 40 2 (by kernel_rfl)
        exact gives_slice rfl (H.holds 39 1 (by kernel_rfl)) (by simp only [Option.map_some]; rw [e1]) rfl rfl (slice_from hlt) ⟨upd_at _ _ _, (turn_later _ _ _ _ _).refl _⟩
      · intro ρ vs W1 hb1 H
        exact gives_move rfl (H.old 7 _ (by kernel_rfl) rfl) ⟨upd_at _ _ _, (turn_later _ _ _ _ _).refl _⟩
      · intro ρ vs W1 hb1 H
        exact gives_move rfl (H.old 8 _ (by kernel_rfl) rfl) ⟨upd_at _ _ _, (turn_later _ _ _ _ _).refl _⟩
      · intro ρ vs W1 hb1 H
        have e1 : ρ (.tmp 43) = .int .i64 (k : Int) := H.holds 43 5 (by kernel_rfl)
        exact gives_slice rfl (H.holds 42 4 (by kernel_rfl)) rfl (by simp only [Option.map_some]; rw [e1]) rfl (slice_upto hkm) ⟨upd_at _ _ _, (turn_later _ _ _ _ _).refl _⟩
      · intro ρ vs W1 hb1 H
        have hsrc : ∀ (l : List Value), l.take (j * 2) = reps j d → Row W1 w.heap.size 167 l → ∀ i v, (reps j d)[i]? = some v → W1.cell? ((⟨w.heap.size, 0, none⟩ : Addr).add i) = some v := by
          intro l hl hr i v hi
          refine row_cells hr i v ?_
          rw [← hl, List.getElem?_take] at hi
          split at hi
          · exact hi
          · cases hi
        have hto : ∀ (l : List Value), Row W1 w.heap.size 167 l → Turn w.heap.size w.heap.size 167 cur new W1 (W1.setRow w.heap.size new.toArray) := fun l hr =>
          ⟨below_setRow (Below.refl _ _) (Nat.le_refl _) _, fun _ => .inr (rowAll_set hr), fun _ => rowAll_set hr⟩
        rcases hb1.2.1 HROW.out with h | h
        · refine gives_copyW elemD rfl (H.holds 41 3 (by kernel_rfl)) (H.holds 44 6 (by kernel_rfl)) h (k := j) HJ.out.symm (reps_len j d) (hsrc cur HTC.out h) (reps_one j d) (by rw [HLC.out, reps_len]; omega) ?_
          rw [HSC.out]
          exact ⟨⟨upd_at _ _ _, rowAll_set h⟩, hto _ h⟩
        · refine gives_copyW elemD rfl (H.holds 41 3 (by kernel_rfl)) (H.holds 44 6 (by kernel_rfl)) h (k := j) HJ.out.symm (reps_len j d) (hsrc new HTN.out h) (reps_one j d) (by rw [HLN.out, reps_len]; omega) ?_
          rw [HSN.out]
          exact ⟨⟨upd_at _ _ _, rowAll_set h⟩, hto _ h⟩
      · intro ρ vs W1 hb1 H
        have e1 : ρ (.tmp 45) = .int .i64 (j : Int) := (H.holds 45 7 (by kernel_rfl)).1
        exact gives_add rfl (H.holds 38 0 (by kernel_rfl)) e1 (by omega) (by omega) ⟨upd_at _ _ _, (turn_later _ _ _ _ _).refl _⟩
      · intro ρ vs W1 hb1 H
        exact gives_assign rfl (H.holds 46 8 (by kernel_rfl)) ⟨upd_at _ _ _, (turn_later _ _ _ _ _).refl _⟩
      · intro vs W1 hb1 hfs
        have f7 : Row W1 w.heap.size 167 new := (hfs 7 (by decide)).2
        have f9 : vs 9 = .int .i64 ((k : Int) + (j : Int)) := hfs 9 (by decide)
        clear hfs
        simp only [putAll, Nat.zero_add, Nat.reduceAdd]
        generalize vs 0 = z0
        generalize vs 1 = z1
        generalize vs 2 = z2
        generalize vs 3 = z3
        generalize vs 4 = z4
        generalize vs 5 = z5
        generalize vs 6 = z6
        generalize vs 7 = z7
        generalize vs 8 = z8
        simp only [f9, Act.put, List.setIfInBounds_toArray, List.set_cons_succ, List.set_cons_zero]
        have HREL := Lib.hid (show RpRel d w.heap.size m w (.int .i64 ((k : Int) + (j : Int))) W1 from ⟨k + j, rest.drop (j * 2), by omega, hjm, by congr 1, by rw [List.length_drop, HRL.out]; omega, by rw [← HNEW2.out]; exact f7, HB.out.trans hb1.1⟩)
        clear f7 f9 hb1
        go_wp2
        go_roundw
        case rel => exact HREL.out
        case measure => simp [intOf]; omega
    · obtain rfl : k = m := by omega
      obtain rfl : rest = [] := List.eq_nil_of_length_eq_zero (by rw [HRL.out]; omega)
      have HR9 := HROW
      rw [List.append_nil] at HR9
      go_wp2
      go_ret
      exact ⟨_, rfl, Nat.le_refl _, HR9.out, HB.out⟩
end Go.Proofs.YtlibofmpnlfelaaGreatDoor

/- delta's own contracts: pack. -/





namespace Go.Proofs.YtlibofmpnlfelaaGreatDoor

open Go.RowKit

def sizesOf (l : List (Nat × Bool)) : List Nat := l.map (·.1)
theorem wide_fin : ∀ n : Fin 65, max 2 (wclosest (n.val : Int)) = wclosest ((max 2 n.val : Nat) : Int) := by decide +kernel
theorem omap_fst (l : List (Nat × Bool)) : omap (fun d : Nat × Bool => some d.1) l = some (sizesOf l) := by
  induction l with
  | nil => rfl
  | cons x l ih => unfold omap; rw [ih]; rfl
/-- What pack answers. -/
def RetPk (w : World) (c : Nat) (p : List UInt8) (e : Ending) (w' : World) : Prop := ∃ v, e = .returned (.tuple #[.int .i64 (c : Int), v, .int .i64 0]) ∧ IsB p v w' ∧ Below w.heap.size w w'
theorem pack_same (l : List (Nat × Bool)) (v : Value) (w : World) (hv : IsR dc l v w) (hb : l.length ≤ 1000000) (hs : dsame l = true) : Calls Tryz.prog 150 #[v] w (RetPk w 0 []) := by
  have HA := Lib.hid (aresame_any l v w hv hb)
  rw [hs] at HA
  clear hv hb hs
  go_enter Tryz.func150, Tryz.ntmps150
  go_wp2_with fail
  refine HA.out.mono ?_
  rintro e w1 ⟨rfl, hb1⟩
  go_wp2
  go_ret3
  exact ⟨_, rfl, isB_nil _, hb1⟩
set_option maxHeartbeats 4000000 in
set_option maxRecDepth 100000 in
theorem pack_more (l : List (Nat × Bool)) (v : Value) (w : World) (ht : WTab w) (hv : IsR dc l v w) (h1 : 1 ≤ l.length) (hb : l.length ≤ 511) (hs : dsame l = false) (hu : ∀ d ∈ l, d.1 < 2 ^ 63) :
    Calls Tryz.prog 150 #[v] w (RetPk w (gcode (sizesOf l.tail)) (bpack (sizesOf l.tail) (gwide (sizesOf l.tail)))) := by
  have HA := Lib.hid (aresame_any l v w hv (by omega))
  rw [hs] at HA
  obtain ⟨A, n, c, rfl⟩ := hv.shape
  have HN := Lib.hid hv.parts.1
  have HV := Lib.hid hv
  obtain ⟨m, hm⟩ : ∃ m, n = m + 1 := ⟨n - 1, by have := HN.out; omega⟩
  subst hm
  have hm6 : m ≤ 510 := by have := HN.out; omega
  have HT := Lib.hid ht
  obtain ⟨q, hq⟩ : ∃ q, q = l.tail := ⟨_, rfl⟩
  have HQ := Lib.hid (show l.drop 1 = q by rw [hq, List.drop_one])
  have HQL := Lib.hid (show q.length = m by rw [hq, List.length_tail]; have := HN.out; omega)
  have HU := Lib.hid (show ∀ x ∈ sizesOf q, x < 2 ^ 64 by
    intro x hx
    obtain ⟨d, hd, rfl⟩ := List.mem_map.1 hx
    have := hu d (List.mem_of_mem_tail (hq ▸ hd))
    exact Nat.lt_trans this (by decide))
  rw [← hq]
  clear hs hu hb h1 hv ht hq
  obtain ⟨v2, hv2, hi2⟩ := fromR_named (P := Tryz.prog) elemD dc_len (k := 1) (by omega) HV.out
  rw [show ((1 : Nat) : Int) = 1 from rfl] at hv2
  rw [HQ.out] at hi2
  obtain ⟨A2, n2, c2, rfl⟩ := hi2.shape
  have hn2 : n2 = m := by have := hi2.parts.1; have := HQL.out; omega
  subst hn2
  have HI2 := Lib.hid hi2
  clear hi2
  have hmi : IntKind.i64.wrap (((n2 + 1 : Nat) : Int) - 1) = (n2 : Int) := by rw [IntKind.wrap_i64]; omega
  go_enter Tryz.func150, Tryz.ntmps150
  go_wp2_with fail
  refine HA.out.mono ?_
  rintro e w1 ⟨rfl, hb1⟩
  have HB1 := Lib.hid hb1
  clear hb1 HA
  go_wp2_with (refine wpList_make elemU rfl _ _ rfl _ _ _ _ n2 w1 w1.heap.size rfl rfl rfl rfl (by omega) (by omega) (Below.refl _ _) (Nat.le_refl _) ?_)
  intro w2 hr2 hb2
  have HS := Lib.hid (show FillRel (fun d : Nat × Bool => some d.1) uv (uv 0) 119 q w1 (.int .i64 0) w2 from ⟨0, [], by omega, rfl, rfl, by rw [Nat.sub_zero, HQL.out]; simpa [uv] using hr2, hb2⟩)
  clear hb2 hr2
  go_wp2_with (refine wpList_slicedL rfl _ _ _ rfl _ (hv2 _) ?_)
  go_loopw [20] (FillRel (fun d : Nat × Bool => some d.1) uv (uv 0) 119 q w1) (fun i _ => n2 - (intOf i).toNat)
  case atStart => exact HS.out
  case round =>
    obtain ⟨k, acc, hk, rfl, hacc, hr, hbw⟩ := hrel
    have hz := hbw.size
    have hal : acc.length = k := by rw [omap_len hacc, List.length_take]; omega
    rw [HQL.out] at hr
    have HACC := Lib.hid hacc
    have HAL := Lib.hid hal
    have hk' : k ≤ n2 := by have := HQL.out; omega
    clear hacc hal hk
    by_cases hlt : k < n2
    · have hkl : k < q.length := by have := HQL.out; omega
      have hlti : (k : Int) < (n2 : Int) := by omega
      obtain ⟨ad, rfl, had, hcell⟩ := (HI2.out.below (HB1.out.trans (hbw.mono HB1.out.size))).at (m := 2) dc_len (by omega) hkl
      obtain ⟨x, hx⟩ : ∃ x, x = q[k] := ⟨_, rfl⟩
      rw [← hx] at hcell
      have k0 := cells2 hcell
      have HN2 := Lib.hid (omap_take (f := fun d : Nat × Bool => some d.1) hkl HACC.out (by rw [← hx]))
      obtain ⟨xu, xf⟩ := x
      dsimp only at k0 HN2
      obtain ⟨k1, k2⟩ := k0
      have hra := hr.alloc (.cells #[.int .u64 (xu : Int), .bool xf] 167)
      have hfx := hra.free k
      have hgr := hr.lt
      have hcu : ∃ u, (wr.alloc (.cells #[.int .u64 (xu : Int), .bool xf] 167)).cell? ⟨w1.heap.size, k, none⟩ = some u := by
        rw [hra.cell]
        exact ⟨_, List.getElem?_eq_getElem (by rw [List.length_append, List.length_map, List.length_replicate]; have := HAL.out; omega)⟩
      obtain ⟨u0, hcu⟩ := hcu
      have hset := hr.set_ k (uv xu)
      rw [fill_step hlt HAL.out] at hset
      have hset := hset.alloc (.cells #[.int .u64 (xu : Int), .bool xf] 167)
      have HSET := Lib.hid hset
      have HB3 := Lib.hid ((hbw.setCell (p := ⟨w1.heap.size, k, none⟩) (Nat.le_refl _) (uv xu)).alloc (by rw [World.size_setCell]; exact hbw.size) (.cells #[.int .u64 (xu : Int), .bool xf] 167))
      clear hset hr hra hbw hz hx hcell
      unfold uv at HB3 HSET
      go_wp2
      go_roundw
      case rel => exact ⟨k + 1, acc ++ [xu], hkl, by go_num, HN2.out, by rw [HQL.out]; exact HSET.out, HB3.out⟩
      case measure => simp [intOf]; omega
    · obtain rfl : k = n2 := by omega
      have he : acc = sizesOf q := by
        have h := HACC.out
        rw [List.take_of_length_le (by rw [HQL.out]; exact Nat.le_refl _), omap_fst] at h
        injection h with h
        exact h.symm
      subst he
      have hlen : (sizesOf q).length = k := by unfold sizesOf; rw [List.length_map, HQL.out]
      obtain ⟨us, hus⟩ : ∃ us, us = sizesOf q := ⟨_, rfl⟩
      rw [← hus] at hr hlen HU
      have HUS := Lib.hid hus
      rw [Nat.sub_self, List.replicate_zero, List.append_nil] at hr
      have HI := Lib.hid (isV_row hr hlen (by omega))
      have hlies := hr.lies 0
      rw [List.drop_zero] at hlies
      have HM := Lib.hid (most_any (some ⟨w1.heap.size, 0, none⟩) k k us wr (fun h => by cases h) hlen (Nat.le_refl _) (by omega) hlies HU.out)
      obtain ⟨g1, g2, _, g4, g5, g6, g7, g8⟩ := gwide_int HU.out
      have hmx : max 2 (wclosest (wmost us : Int)) = (gwide us : Int) := by
        rw [← g1]
        have := wide_fin ⟨wmost us, by have := wmost_64 HU.out; omega⟩
        exact this
      have HTW := Lib.hid (HT.out.below (HB1.out.trans (hbw.mono HB1.out.size)) HT.out.lt)
      have HC := Lib.hid (closest_any (wmost us : Int) wr HTW.out)
      obtain ⟨C, hC⟩ : ∃ C, C = wclosest (wmost us : Int) := ⟨_, rfl⟩
      rw [← hC] at HC hmx
      obtain ⟨M, hM⟩ : ∃ M, M = (wmost us : Int) := ⟨_, rfl⟩
      rw [← hM] at HM HC
      have hmax : ∀ (ts : Array TypeId) (t : TypeId) (W : World), (Builtin.max_ ts t #[.int .i64 2, .int .i64 C]).run Tryz.prog W = .ok (.int .i64 (gwide us : Int)) W := fun ts t W => by
        rw [run_max_int2]
        congr 2
        rw [← hmx]
        split <;> omega
      obtain ⟨W, hW⟩ : ∃ W, W = gwide us := ⟨_, rfl⟩
      have HPK := Lib.hid (pack_is (W : Int) (v := .slice (some ⟨w1.heap.size, 0, none⟩) k k) (w := wr) HI.out (by omega) HU.out)
      rw [packsAny_in _ _ (by omega), hW, packs_ok (gwide_room HU.out), ← hW] at HPK
      rw [← hW] at hmax g2
      have HWW := Lib.hid hW
      have HCD := Lib.hid (fun w => code_any (W : Int) w)
      rw [g2] at HCD
      have HB4 := Lib.hid (HB1.out.trans (hbw.mono HB1.out.size))
      clear hr hbw hlies hmx hC hM hW g1 g2 g4 g5 g6 g7 g8 hlen hus hz
      go_wp2_with (first | (go_at_call 138; refine HM.out.mono ?_; rintro e w' ⟨rfl, rfl⟩) | (go_at_call 137; refine HC.out.mono ?_; rintro e w' ⟨rfl, rfl⟩) | (go_at_call 139; refine HPK.out.mono ?_))
      rintro e w5 ⟨v5, rfl, hi5, hb5⟩
      have HI5 := Lib.hid hi5
      have HB5 := Lib.hid (below_then HB4.out hb5)
      have HT5 := Lib.hid (HTW.out.below hb5 HTW.out.lt)
      clear hi5 hb5
      go_wp2_with (go_at_call 141; refine (HCD.out _ HT5.out).mono ?_; rintro e w' ⟨rfl, rfl⟩)
      go_ret3
      rw [← HUS.out, ← HWW.out]
      exact ⟨_, rfl, HI5.out, HB5.out⟩
end Go.Proofs.YtlibofmpnlfelaaGreatDoor

/- delta's own contracts: numbers. -/







namespace Go.Proofs.YtlibofmpnlfelaaGreatDoor

open Go.RowKit

/-- Differences that all go one way. -/
def toward (f : Bool) (us : List Nat) : List (Nat × Bool) := us.map fun u => (u, f)
theorem gnext_step {s f : Bool} {x : Int} {u : Nat} {z : Int} {ok : Bool} (h : gstep x u f = (z, ok)) : gnext s f x u = if ok = true ∧ (s = true ∨ 0 ≤ z) then some z else none := by unfold gnext; rw [h]
theorem glast_get : ∀ (ys : List Int) (x : Int), (x :: ys)[ys.length]? = some (glast x ys)
  | [], _ => rfl
  | y :: ys, x => by rw [List.length_cons, List.getElem?_cons_succ, glast_get ys y]; rfl
/-- What numbers answers. -/
def RetNm (x : Int) (o : Option (List Int)) (w : World) (e : Ending) (w' : World) : Prop :=
  match o with
  | none => e = .returned (.tuple #[.slice none 0 0, .bool false]) ∧ Below w.heap.size w w'
  | some ys => ∃ v, e = .returned (.tuple #[v, .bool true]) ∧ IsV iv (x :: ys) v w' ∧ Below w.heap.size w w'
def NumRel (s f : Bool) (x : Int) (us : List Nat) (g : Nat) (w : World) (i : Value) (wr : World) : Prop := ∃ (k : Nat) (ys : List Int), k ≤ us.length ∧ i = .int .i64 (k : Int) ∧ gwalk s f x (us.take k) = some ys ∧
  Row wr g 3 ((x :: ys).map iv ++ List.replicate (us.length - k) (iv 0)) ∧ Below w.heap.size w wr
set_option maxHeartbeats 4000000 in
set_option maxRecDepth 100000 in
theorem numbers_any (s f : Bool) (x : Int) (us : List Nat) (v : Value) (w : World) (hv : IsR dc (toward f us) v w) (hx : inInt x) (hu : ∀ u ∈ us, u < 2 ^ 64) (hb : us.length ≤ 1000) :
    Calls Tryz.prog 156 #[.int .i64 x, v, .bool s] w (RetNm x (gwalk s f x us) w) := by
  obtain ⟨A, n, c, rfl⟩ := hv.shape
  have HN := Lib.hid (show us.length = n by have := hv.parts.1; unfold toward at this; rwa [List.length_map] at this)
  have HV := Lib.hid hv
  have HU := Lib.hid hu
  have HXI := Lib.hid hx
  have hn6 : n ≤ 1000 := by have := HN.out; omega
  have hni : IntKind.i64.wrap ((n : Int) + 1) = ((n + 1 : Nat) : Int) := by rw [IntKind.wrap_i64]; omega
  have hni2 : (n : Int) + 1 = ((n + 1 : Nat) : Int) := by omega
  have HNI := Lib.hid hni2
  clear hv hu hb hx hni2
  go_enter Tryz.func156, Tryz.ntmps156
  go_wp2_with (refine wpList_make elemI rfl _ _ rfl _ _ _ _ (n + 1) w w.heap.size rfl rfl rfl rfl (by omega) (by omega) (Below.refl _ _) (Nat.le_refl _) ?_)
  intro w2 hr2 hb2
  have hset := hr2.set_ 0 (iv x)
  have hfx := hr2.free 0
  have hcu : ∃ u, w2.cell? ⟨w.heap.size, 0, none⟩ = some u := by rw [hr2.cell]; exact ⟨_, List.getElem?_eq_getElem (by rw [List.length_replicate]; omega)⟩
  obtain ⟨u0, hcu⟩ := hcu
  have HS := Lib.hid (show NumRel s f x us w.heap.size w (.int .i64 0) (w2.setCell ⟨w.heap.size, 0, none⟩ (iv x)) from ⟨0, [], Nat.zero_le _, rfl, by rw [List.take_zero]; rfl, by
    rw [HN.out, Nat.sub_zero]; rw [List.replicate_succ, List.set_cons_zero] at hset; exact hset, hb2.setCell (p := ⟨w.heap.size, 0, none⟩) (Nat.le_refl _) _⟩)
  clear hset hb2 hr2
  unfold iv at HS
  go_wp2
  go_loopw [22] (NumRel s f x us w.heap.size w) (fun i _ => n - (intOf i).toNat)
  case atStart => exact HS.out
  case round =>
    clear hcu hfx
    obtain ⟨k, ys, hk, rfl, hwk, hrow, hbw⟩ := hrel
    have HWK := Lib.hid hwk
    have HYL := Lib.hid (show ys.length = k by rw [gwalk_len hwk, List.length_take]; omega)
    have HZ := Lib.hid (gwalk_last hwk HXI.out)
    rw [HN.out] at hrow
    have HROW := Lib.hid hrow
    have HB := Lib.hid hbw
    have hkn : k ≤ n := by have := HN.out; omega
    have hgw := hrow.lt
    clear hwk hrow hk
    by_cases hlt : k < n
    · have hkl : k < us.length := by have := HN.out; omega
      have hkt : k < (toward f us).length := by unfold toward; rw [List.length_map]; exact hkl
      have hlti : (k : Int) < (n : Int) := by omega
      obtain ⟨ad, rfl, had, hcell⟩ := (HV.out.below hbw).at (m := 2) dc_len (by omega) hkt
      obtain ⟨u, hue⟩ : ∃ u, u = us[k] := ⟨_, rfl⟩
      have hte : (toward f us)[k] = (u, f) := by
        have h : (toward f us)[k]? = some (u, f) := by unfold toward; rw [List.getElem?_map, List.getElem?_eq_getElem hkl, ← hue]; rfl
        rw [List.getElem?_eq_getElem hkt] at h
        injection h
      rw [hte] at hcell
      have k0 := cells2 hcell
      dsimp only at k0
      obtain ⟨k1, k2⟩ := k0
      have hu64 : (u : Int) < 18446744073709551616 := by have := HU.out u (by rw [hue]; exact List.getElem_mem hkl); omega
      obtain ⟨y, hy⟩ : ∃ y, y = glast x ys := ⟨_, rfl⟩
      rw [← hy] at HZ
      have HTK := Lib.hid (show us.take (k + 1) = us.take k ++ [u] by rw [List.take_succ_eq_append_getElem hkl, hue])
      have HSN := Lib.hid (show gwalk s f x (us.take (k + 1)) = match gnext s f y u with | none => none | some z => some (ys ++ [z]) by rw [HTK.out, gwalk_snoc, HWK.out]; dsimp only; rw [← hy]; rfl)
      obtain ⟨z, ok, hzo⟩ : ∃ z ok, gstep y u f = (z, ok) := ⟨_, _, rfl⟩
      have HST := Lib.hid (fun W => step_any y u f W HZ.out hu64)
      rw [hzo] at HST
      have HGN := Lib.hid (gnext_step (s := s) hzo)
      obtain ⟨W0, hW0⟩ : ∃ W0, W0 = wr.alloc (.cells #[.int .u64 (u : Int), .bool f] 167) := ⟨_, rfl⟩
      have HBA := Lib.hid (show Below wr.heap.size wr W0 by rw [hW0]; exact (Below.refl _ _).alloc (Nat.le_refl _) _)
      have HD := Lib.hid (show Row W0 wr.heap.size 167 (dc (u, f)) by rw [hW0]; exact heap_alloc_new wr _)
      have HCY := Lib.hid (show ∀ W, Below wr.heap.size wr W → W.cell? ((⟨w.heap.size, 0, none⟩ : Addr).add k) = some (.int .i64 y) from fun W hW => row_cells (HROW.out.below hW hgw) k _ (by
        rw [List.getElem?_append_left (by rw [List.length_map, List.length_cons, HYL.out]; omega), List.getElem?_map, ← HYL.out, glast_get, hy]; rfl))
      clear hcell hue hte hzo hu64 hy hbw
      go_wp2
      rw [← hW0]
      refine wp_region_list [.is (.slice (some ⟨w.heap.size, 0, none⟩) (n + 1) (n + 1)), .is (.int .i64 (k : Int)), .is (.pointer (some ((⟨w.heap.size, 0, none⟩ : Addr).add k))), .is (.int .i64 y), .is (dv (u, f)), .is (.tuple #[.int .i64 z, .bool ok]), .is (.tuple #[.int .i64 z, .bool ok]), .is (.int .i64 z), .is (.bool ok), .is (.int .i64 z), .is (.bool ok)]
        [some 28, some 29, some 30, some 31, some 32, some 33, some 27, some 34, some 35, some 11, some 12] (by kernel_rfl) (by kernel_rfl) (by kernel_rfl) rfl ⟨?_, ?_, ?_, ?_, ?_, ?_, ?_, ?_, ?_, ?_, ?_, trivial⟩ ?_
      · intro ρ W1 hb1 H
        exact gives_move rfl (H.old 8 _ (by kernel_rfl) rfl) ⟨rfl, Below.refl _ _⟩
      · intro ρ W1 hb1 H
        exact gives_move rfl (H.old 9 _ (by kernel_rfl) rfl) ⟨rfl, Below.refl _ _⟩
      · intro ρ W1 hb1 H
        exact gives_index elemI rfl (H.new 28 0 (by kernel_rfl)) (H.new 29 1 (by kernel_rfl)) (by omega) ⟨rfl, Below.refl _ _⟩
      · intro ρ W1 hb1 H
        exact gives_load rfl (H.new 30 2 (by kernel_rfl)) Tryz.underlying3 rfl (HCY.out W1 (HBA.out.trans (hb1.mono HBA.out.size))) ⟨rfl, Below.refl _ _⟩
      · intro ρ W1 hb1 H
        exact gives_load_row (cs := dc (u, f)) rfl (H.old 10 _ (by kernel_rfl) rfl) Tryz.underlying167 rfl sizeD (HD.out.below hb1 HD.out.lt) ⟨rfl, Below.refl _ _⟩
      · intro ρ W1 hb1 H
        have e0 : ρ (.tmp 31) = .int .i64 y := H.new 31 3 (by kernel_rfl)
        have e1 : ρ (.tmp 32) = dv (u, f) := H.new 32 4 (by kernel_rfl)
        refine gives_call rfl (fun _ _ => by kernel_rfl) (H.func _) (args := #[.int .i64 y, dv (u, f)]) (by simp [e0, e1]) ?_
        exact (HST.out W1).mono fun e w' ⟨h1, h2⟩ => ⟨_, h1, rfl, h2⟩
      · intro ρ W1 hb1 H
        exact gives_move rfl (H.new 33 5 (by kernel_rfl)) ⟨rfl, Below.refl _ _⟩
      · intro ρ W1 hb1 H
        exact gives_extract rfl (H.new 27 6 (by kernel_rfl)) rfl ⟨rfl, Below.refl _ _⟩
      · intro ρ W1 hb1 H
        exact gives_extract rfl (H.new 27 6 (by kernel_rfl)) rfl ⟨rfl, Below.refl _ _⟩
      · intro ρ W1 hb1 H
        exact gives_assign rfl (H.new 34 7 (by kernel_rfl)) ⟨rfl, Below.refl _ _⟩
      · intro ρ W1 hb1 H
        exact gives_assign rfl (H.new 35 8 (by kernel_rfl)) ⟨rfl, Below.refl _ _⟩
      · intro vs W1 hb1 hfs
        have f9 : vs 9 = .int .i64 z := hfs 9 (by decide)
        have f10 : vs 10 = .bool ok := hfs 10 (by decide)
        clear hfs
        simp only [putAll, Nat.zero_add, Nat.reduceAdd]
        generalize vs 0 = z0
        generalize vs 1 = z1
        generalize vs 2 = z2
        generalize vs 3 = z3
        generalize vs 4 = z4
        generalize vs 5 = z5
        generalize vs 6 = z6
        generalize vs 7 = z7
        generalize vs 8 = z8
        simp only [f9, f10, Act.put, List.setIfInBounds_toArray, List.set_cons_succ, List.set_cons_zero]
        have hbb := HBA.out.trans (hb1.mono HBA.out.size)
        have HB1 := Lib.hid (HB.out.trans (hbb.mono HB.out.size))
        have hrow1 := HROW.out.below hbb hgw
        have hset := hrow1.set_ (k + 1) (iv z)
        have hfx := hrow1.free (k + 1)
        have hcu : ∃ u, W1.cell? ⟨w.heap.size, k + 1, none⟩ = some u := by
          rw [hrow1.cell]
          exact ⟨_, List.getElem?_eq_getElem (by rw [List.length_append, List.length_map, List.length_cons, HYL.out, List.length_replicate]; omega)⟩
        obtain ⟨u0, hcu⟩ := hcu
        have hfill := fill_step (enc := iv) (z := iv 0) (acc := x :: ys) (y := z) (n := n + 1) (k := k + 1) (by omega) (by rw [List.length_cons, HYL.out])
        rw [show n + 1 - (k + 1) = n - k by omega, show n + 1 - (k + 1 + 1) = n - (k + 1) by omega] at hfill
        rw [hfill] at hset
        have HSET := Lib.hid hset
        have HB3 := Lib.hid (HB1.out.setCell (p := ⟨w.heap.size, k + 1, none⟩) (Nat.le_refl _) (iv z))
        unfold iv at HSET HB3
        clear f9 f10 hb1 hbb hrow1 hset hfill
        have hno : gnext s f y u = none → gwalk s f x us = none := fun h => gwalk_take_none (k := k + 1) (by rw [HSN.out, h])
        have HNO := Lib.hid hno
        clear hno
        cases ok with
        | false =>
          have HE := Lib.hid (HNO.out (by rw [HGN.out, if_neg (by rintro ⟨h, _⟩; cases h)]))
          go_wp2
          go_ret2
          rw [HE.out]
          exact ⟨rfl, HB1.out⟩
        | true =>
          by_cases hz : z < 0
          · have d3 : decide (z < 0) = true := decide_eq_true hz
            cases s with
            | false =>
              have HE := Lib.hid (HNO.out (by rw [HGN.out, if_neg (by rintro ⟨_, h | h⟩; cases h; omega)]))
              go_wp2
              go_ret2
              rw [HE.out]
              exact ⟨rfl, HB1.out⟩
            | true =>
              have HW2 := Lib.hid (show gwalk true f x (us.take (k + 1)) = some (ys ++ [z]) by rw [HSN.out, HGN.out, if_pos ⟨rfl, .inl rfl⟩])
              go_wp2
              go_roundw
              case rel => exact ⟨k + 1, ys ++ [z], hkl, by go_num, HW2.out, by rw [HN.out]; exact HSET.out, HB3.out⟩
              case measure => simp [intOf]; omega
          · have d3 : decide (z < 0) = false := decide_eq_false hz
            have HW2 := Lib.hid (show gwalk s f x (us.take (k + 1)) = some (ys ++ [z]) by rw [HSN.out, HGN.out, if_pos ⟨rfl, .inr (by omega)⟩])
            go_wp2
            go_roundw
            case rel => exact ⟨k + 1, ys ++ [z], hkl, by go_num, HW2.out, by rw [HN.out]; exact HSET.out, HB3.out⟩
            case measure => simp [intOf]; omega
    · obtain rfl : k = n := by omega
      have HE := Lib.hid HWK.out
      rw [List.take_of_length_le (by rw [HN.out]; exact Nat.le_refl _)] at HE
      have hr := HROW.out
      rw [Nat.sub_self, List.replicate_zero, List.append_nil] at hr
      have HI := Lib.hid (isV_row hr (show (x :: ys).length = k + 1 by rw [List.length_cons, HYL.out]) (by omega))
      clear hr
      go_wp2
      go_ret2
      rw [HE.out]
      exact ⟨_, rfl, HI.out, HB.out⟩
end Go.Proofs.YtlibofmpnlfelaaGreatDoor

/- delta's own contracts: unpack. -/





namespace Go.Proofs.YtlibofmpnlfelaaGreatDoor

open Go.RowKit

/-- What unpack answers: the sizes and the bytes behind, or none. -/
def RetUp (f : Bool) (o : Option (List Nat × List UInt8)) (w : World) (e : Ending) (w' : World) : Prop :=
  match o with
  | none => e = .returned (.tuple #[.slice none 0 0, .slice none 0 0, .bool false]) ∧ Below w.heap.size w w'
  | some p => ∃ u r, e = .returned (.tuple #[u, r, .bool true]) ∧ IsR dc (toward f p.1) u w' ∧ OwnB w p.2 r w' ∧ Below w.heap.size w w'
theorem reps_toward (m : Nat) (u : Nat) (f : Bool) : reps m (u, f) = (toward f (List.replicate m u)).flatMap dc := by unfold reps toward; rw [List.map_replicate]
theorem toward_len (f : Bool) (us : List Nat) : (toward f us).length = us.length := by unfold toward; rw [List.length_map]
set_option maxHeartbeats 4000000 in
set_option maxRecDepth 100000 in
theorem unpack_bad (A : Value) (C M d : Int) (w : World) (hd : inInt d) (hg : (gdiff 0 d).2.2 = false) :
    Calls Tryz.prog 155 #[A, .int .i64 C, .int .i64 M, .int .i64 d] w (RetUp (gdiff 0 d).2.1 none w) := by
  have HB := Lib.hid (between_any 0 d w (by unfold inInt; omega) hd)
  unfold RetBt at HB
  rw [hg] at HB
  obtain ⟨x, hx⟩ : ∃ x, x = dpair (gdiff 0 d) := ⟨_, rfl⟩
  rw [← hx] at HB
  obtain ⟨xu, xf⟩ := x
  unfold dv dc at HB
  dsimp only at HB
  clear hx hd hg
  go_enter Tryz.func155, Tryz.ntmps155
  go_wp2_with (go_at_call 177; refine HB.out.mono ?_; rintro e w1 ⟨rfl, hb1⟩)
  go_ret3
  exact ⟨rfl, hb1.alloc hb1.size _⟩
set_option maxHeartbeats 4000000 in
set_option maxRecDepth 100000 in
theorem unpack_zero (v : Value) (M : Nat) (d : Int) (u0 : Nat) (f : Bool) (w : World) (hM2 : 2 ≤ M) (hM : M ≤ 512) (hd : inInt d) (hx : gdiff 0 d = (u0, f, true)) :
    Calls Tryz.prog 155 #[v, .int .i64 0, .int .i64 (M : Int), .int .i64 d] w (fun e w' =>
      ∃ u, e = .returned (.tuple #[u, v, .bool true]) ∧ IsR dc (toward f (List.replicate (M - 1) u0)) u w' ∧ Below w.heap.size w w') := by
  have HB := Lib.hid (between_any 0 d w (by unfold inInt; omega) hd)
  unfold RetBt at HB
  rw [hx] at HB
  unfold dpair dv dc at HB
  dsimp only at HB
  clear hx hd
  obtain ⟨m, hm⟩ : ∃ m, M = m + 1 := ⟨M - 1, by omega⟩
  subst hm
  have e1 : m + 1 - 1 = m := by omega
  rw [e1]
  have hmi1 : IntKind.i64.wrap (((m + 1 : Nat) : Int) - 1) = (m : Int) := by rw [IntKind.wrap_i64]; omega
  have HRP := Lib.hid (fun w1 : World => repeat_any (u0, f) (w1.heap.size + 1) 1 m ((w1.alloc (.cells #[.int .u64 (u0 : Int), .bool f] 167)).alloc (.cells #[.int .u64 (u0 : Int), .bool f] 167)) (by
    have h := heap_alloc_new (w1.alloc (.cells #[.int .u64 (u0 : Int), .bool f] 167)) (.cells #[.int .u64 (u0 : Int), .bool f] 167)
    rw [show (w1.alloc (.cells #[.int .u64 (u0 : Int), .bool f] 167)).heap.size = w1.heap.size + 1 by simp] at h
    exact h) (by omega) (by omega))
  clear e1
  go_enter Tryz.func155, Tryz.ntmps155
  go_wp2_with fail
  refine HB.out.mono ?_
  rintro e w1 ⟨rfl, hb1⟩
  have HB2 := Lib.hid ((hb1.alloc hb1.size (.cells #[.int .u64 (u0 : Int), .bool f] 167)).alloc (by simp; have := hb1.size; omega) (.cells #[.int .u64 (u0 : Int), .bool f] 167))
  clear hb1
  go_wp2_with (go_at_call 183; refine (HRP.out w1).mono ?_)
  rintro e w2 ⟨g, rfl, hg, hr, hb2⟩
  rw [reps_toward] at hr
  have HI := Lib.hid (isR_row hr (by rw [toward_len, List.length_replicate]) (by omega))
  have HB3 := Lib.hid (below_then HB2.out hb2)
  clear hr hb2 hg
  go_wp2
  go_ret3
  exact ⟨_, rfl, HI.out, HB3.out⟩
/-- The row of differences, the first k sizes behind the first one laid. -/
def UnpRel9 (f : Bool) (u0 : Nat) (us : List Nat) (g : Nat) (w w3 : World) (i : Value) (wr : World) : Prop := ∃ k : Nat, k ≤ us.length ∧ i = .int .i64 (k : Int) ∧
  Row wr g 167 ((toward f (u0 :: us.take k)).flatMap dc ++ reps (us.length - k) (u0, f)) ∧ Below w.heap.size w wr ∧ w3.grownBy wr (some g)
theorem up_set {f : Bool} {u0 : Nat} {us : List Nat} {k : Nat} (h : k < us.length) : ((toward f (u0 :: us.take k)).flatMap dc ++ reps (us.length - k) (u0, f)).set ((k + 1) * 2) (.int .u64 (us[k] : Int)) =
    (toward f (u0 :: us.take (k + 1))).flatMap dc ++ reps (us.length - (k + 1)) (u0, f) := by
  have hl : ((toward f (u0 :: us.take k)).flatMap dc).length = (k + 1) * 2 := by rw [dflat_len, toward_len, List.length_cons, List.length_take]; congr 1; omega
  have hr : reps (us.length - k) (u0, f) = dc (u0, f) ++ reps (us.length - (k + 1)) (u0, f) := by
    rw [show us.length - k = 1 + (us.length - (k + 1)) by omega, reps_add]; rfl
  have ht : (toward f (u0 :: us.take (k + 1))).flatMap dc = (toward f (u0 :: us.take k)).flatMap dc ++ dc (us[k], f) := by
    rw [List.take_succ_eq_append_getElem h]
    unfold toward
    rw [← List.cons_append, List.map_append, List.flatMap_append]
    rfl
  rw [List.set_append_right _ _ (by omega), hl, Nat.sub_self, hr, ht, List.append_assoc]
  rfl
set_option maxHeartbeats 4000000 in
set_option maxRecDepth 100000 in
theorem unpack_more (r : List UInt8) (v : Value) (C M : Nat) (d : Int) (u0 : Nat) (f : Bool) (w : World) (ht : WTab w) (hv : IsB r v w) (hb : r.length ≤ 1000000) (hC1 : 1 ≤ C) (hC : C ≤ 31) (hM2 : 2 ≤ M) (hM : M ≤ 512) (hd : inInt d) (hx : gdiff 0 d = (u0, f, true)) :
    Calls Tryz.prog 155 #[v, .int .i64 (C : Int), .int .i64 (M : Int), .int .i64 d] w
      (RetUp f (if (unpacksAny r (M - 2 : Nat) (wof C)).2.2 = 0 then some (u0 :: (unpacksAny r (M - 2 : Nat) (wof C)).1, (unpacksAny r (M - 2 : Nat) (wof C)).2.1) else none) w) := by
  have HB := Lib.hid (between_any 0 d w (by unfold inInt; omega) hd)
  unfold RetBt at HB
  rw [hx] at HB
  unfold dpair dv dc at HB
  dsimp only at HB
  clear hx hd
  obtain ⟨m, hm⟩ : ∃ m, m = M - 2 := ⟨_, rfl⟩
  obtain ⟨p, hp⟩ : ∃ p, p = M - 1 := ⟨_, rfl⟩
  rw [← hm]
  have HPM := Lib.hid (show p = m + 1 by omega)
  have hmi1 : IntKind.i64.wrap ((M : Int) - 1) = (p : Int) := by rw [IntKind.wrap_i64]; omega
  have hmi2 : IntKind.i64.wrap ((M : Int) - 2) = (m : Int) := by rw [IntKind.wrap_i64]; omega
  have hmi3 : (M : Int) - 1 = (p : Int) := by omega
  have hmi4 : (M : Int) - 2 = (m : Int) := by omega
  have HRP := Lib.hid (fun w1 : World => repeat_any (u0, f) (w1.heap.size + 1) 1 p ((w1.alloc (.cells #[.int .u64 (u0 : Int), .bool f] 167)).alloc (.cells #[.int .u64 (u0 : Int), .bool f] 167)) (by
    have h := heap_alloc_new (w1.alloc (.cells #[.int .u64 (u0 : Int), .bool f] 167)) (.cells #[.int .u64 (u0 : Int), .bool f] 167)
    rw [show (w1.alloc (.cells #[.int .u64 (u0 : Int), .bool f] 167)).heap.size = w1.heap.size + 1 by simp] at h
    exact h) (by omega) (by omega))
  have HT := Lib.hid ht
  have HV := Lib.hid hv
  have hc0 : ((C : Int) == 0) = false := by simp; omega
  obtain ⟨W, hW⟩ : ∃ W, W = wof (C : Int) := ⟨_, rfl⟩
  have HOF := Lib.hid (fun W1 (h : WTab W1) => of_any (C : Int) W1 h (by omega) (by omega))
  rw [← hW] at HOF ⊢
  obtain ⟨us, q, y, hu⟩ : ∃ us q y, unpacksAny r (m : Int) W = (us, q, y) := ⟨_, _, _, rfl⟩
  have HUN := Lib.hid (fun W1 (h : IsB r v W1) => unpack_isO (m : Int) W h hb)
  rw [hu] at HUN ⊢
  unfold RetUO at HUN
  dsimp only at HUN ⊢
  have HUL := Lib.hid (show y = 0 → us.length = m from fun hy => by subst hy; exact (unpacksAny_len hu).1)
  obtain ⟨o, ho⟩ : ∃ o, o = (if y = 0 then some (u0 :: us, q) else none) := ⟨_, rfl⟩
  have HO := Lib.hid ho
  rw [← ho]
  clear ho hu hW ht hv hb hC1 hM2 hm hp
  go_enter Tryz.func155, Tryz.ntmps155
  go_wp2_with fail
  refine HB.out.mono ?_
  rintro e w1 ⟨rfl, hb1⟩
  have HB2 := Lib.hid ((hb1.alloc hb1.size (.cells #[.int .u64 (u0 : Int), .bool f] 167)).alloc (by simp; have := hb1.size; omega) (.cells #[.int .u64 (u0 : Int), .bool f] 167))
  clear hb1
  go_wp2_with (go_at_call 183; refine (HRP.out w1).mono ?_)
  rintro e w2 ⟨g, rfl, hg, hr, hb2⟩
  have HROW := Lib.hid hr
  have hgw := hr.lt
  have HB3 := Lib.hid (below_then HB2.out hb2)
  have hwg : w.heap.size ≤ g := Nat.le_trans HB2.out.size hg
  clear hr hb2 hg
  have HT2 := Lib.hid (HT.out.below HB3.out HT.out.lt)
  go_wp2_with (first | (go_at_call 144; refine (HOF.out _ HT2.out).mono ?_; rintro e w' ⟨rfl, rfl⟩) | (go_at_call 143; refine (HUN.out _ (HV.out.below HB3.out)).mono ?_))
  rintro e w3 ⟨su, sr, rfl, hsu, hsr, hb3⟩
  by_cases hy : y = 0
  · subst hy
    have HO1 : Hid (o = some (u0 :: us, q)) := Lib.hid (by rw [HO.out, if_pos rfl])
    have HUM := Lib.hid (HUL.out rfl)
    have hn := own_shape hsu
    obtain ⟨SB, sc, rfl, hs1, hs2, _, hs4, hs5⟩ := hn
    have HSU := Lib.hid hsu
    rw [HUM.out] at HSU
    have HSR := Lib.hid hsr
    have HB4 := Lib.hid (below_then HB3.out hb3)
    have HROW3 := Lib.hid (HROW.out.below hb3 hgw)
    have hgw3 := HROW3.out.lt
    rw [HUM.out]
    clear hsu hsr hs1 hs2 hs4 hs5
    have HS := Lib.hid (show UnpRel9 f u0 us g w w3 (.int .i64 0) w3 from ⟨0, Nat.zero_le _, rfl, by
      have h := HROW3.out
      rw [HPM.out, Nat.add_comm m 1, reps_add] at h
      rw [List.take_zero, HUM.out, Nat.sub_zero]
      exact h, HB4.out, World.grownBy.refl _ _⟩)
    clear hb3
    go_wp2
    go_loopw [49] (UnpRel9 f u0 us g w w3) (fun i _ => m - (intOf i).toNat)
    case atStart => exact HS.out
    case round =>
      obtain ⟨k, hk, rfl, hrow, hbw, hgr⟩ := hrel
      have HRW := Lib.hid hrow
      have HBW := Lib.hid hbw
      have HGR := Lib.hid hgr
      have hkm : k ≤ m := by have := HUM.out; omega
      have hgwr := hrow.lt
      clear hrow hbw hgr hk
      by_cases hlt : k < m
      · have hkl : k < us.length := by have := HUM.out; omega
        have hlti : (k : Int) < (m : Int) := by omega
        have hkp : (k : Int) + 1 < (p : Int) := by have := HPM.out; omega
        have hV : IsV uv us (.slice SB m sc) wr := isV_own (own_past HSU.out HGR.out hgw)
        obtain ⟨ad, rfl, had, hcell⟩ := hV.at hkl
        obtain ⟨u, hue⟩ : ∃ u, u = us[k] := ⟨_, rfl⟩
        rw [← hue] at hcell
        unfold uv at hcell
        have hset := HRW.out.set_ ((k + 1) * 2) (.int .u64 (us[k] : Int))
        rw [up_set hkl, ← hue] at hset
        have HSET := Lib.hid hset
        have hfx := HRW.out.free ((k + 1) * 2)
        have hcu : ∃ u, wr.cell? ⟨g, (k + 1) * 2, none⟩ = some u := by
          rw [HRW.out.cell]
          exact ⟨_, List.getElem?_eq_getElem (by rw [List.length_append, dflat_len, toward_len, List.length_cons, List.length_take, reps_len]; omega)⟩
        obtain ⟨c0, hcu⟩ := hcu
        have HBS := Lib.hid (HBW.out.setCell (p := ⟨g, (k + 1) * 2, none⟩) hwg (.int .u64 (u : Int)))
        have HGS := Lib.hid (HGR.out.trans (grown_set wr g ((k + 1) * 2) (.int .u64 (u : Int))))
        clear hset hV hue
        go_wp2
        go_roundw
        case rel => exact ⟨k + 1, hkl, by go_num, HSET.out, HBS.out, HGS.out⟩
        case measure => simp [intOf]; omega
      · obtain rfl : k = m := by omega
        have hr := HRW.out
        rw [HUM.out, Nat.sub_self, List.take_of_length_le (by rw [HUM.out]; exact Nat.le_refl _), show reps 0 (u0, f) = [] from rfl, List.append_nil] at hr
        have HI := Lib.hid (isR_row hr (show (toward f (u0 :: us)).length = p by rw [toward_len, List.length_cons, HUM.out, HPM.out]) (by have := HPM.out; omega))
        obtain ⟨nq, hq⟩ := HSR.out
        have HQ := Lib.hid (show OwnB w q sr wr from ⟨nq, own_base (Nat.le_trans HB3.out.size (Nat.le_refl _)) (own_past hq HGR.out hgw)⟩)
        clear hr hq
        go_wp2
        go_ret3
        rw [HO1.out]
        exact ⟨_, _, rfl, HI.out, HQ.out, HBW.out⟩
  · have hy2 : (y != 0) = true := by simpa using hy
    have HO1 : Hid (o = none) := Lib.hid (by rw [HO.out, if_neg hy])
    have HB4 := Lib.hid (below_then HB3.out hb3)
    clear hsu hsr hb3 hy
    go_wp2
    go_ret3
    rw [HO1.out]
    exact ⟨rfl, HB4.out⟩
end Go.Proofs.YtlibofmpnlfelaaGreatDoor

/- What delta's Put does, as plain mathematics: its differences against the sizes of XTPlain. -/





namespace Go.Proofs.YtlibofmpnlfelaaGreatDoor

open Go.RowKit

theorem gdiff_ok {a b : Int} (h : (gdiff a b).2.2 = true) : (gdiff a b).2.1 = decide (b < a) ∧ ((gdiff a b).1 = 0 → (gdiff a b).2.1 = false) := by
  rcases gdiff_cases a b with ⟨k, _⟩ | ⟨k1, k2, k⟩ | ⟨k1, k2, k⟩
  · rw [k] at h; cases h
  · rw [k]; exact ⟨(decide_eq_true k1).symm, fun h => by dsimp only at h; omega⟩
  · rw [k]; exact ⟨(decide_eq_false (by omega)).symm, fun _ => rfl⟩
theorem dplain_neg {l : List Int} {x : Int} (hx : x ∈ l) (h : x < 0) : dplain l false = none := omap_none hx (by unfold eplain; rw [if_neg (by decide), if_neg (by omega)])
theorem dplain_some {l : List Int} {s : Bool} (h : s = true ∨ ∀ x ∈ l, 0 ≤ x) : dplain l s ≠ none := by
  unfold dplain
  induction l with
  | nil => simp [omap]
  | cons x l ih =>
    have h1 : ∃ u, eplain x s = some u := by
      unfold eplain
      rcases h with h | h
      · rw [if_pos h]; exact ⟨_, rfl⟩
      · have := h x List.mem_cons_self
        split
        · exact ⟨_, rfl⟩
        · first | exact ⟨_, rfl⟩ | (rw [if_pos this]; exact ⟨_, rfl⟩)
    obtain ⟨u, hu⟩ := h1
    have h2 := ih (h.imp id fun h y hy => h y (List.mem_cons_of_mem _ hy))
    rw [omap, hu]
    dsimp only
    cases hr : omap (eplain · s) l with
    | none => exact absurd hr h2
    | some r => simp
theorem omap_every {α β : Type} {f : α → Option β} {g : α → β} : ∀ {l : List α}, (∀ x ∈ l, f x = some (g x)) → omap f l = some (l.map g)
  | [], _ => rfl
  | x :: l, h => by
    rw [omap, h x List.mem_cons_self, omap_every fun y hy => h y (List.mem_cons_of_mem _ hy)]
    rfl
section

variable {l : List Int} {k : Nat}
theorem gat_bad {f : Bool} {i : Nat} (h : (diffAt l i).2.2 = false) : gat l f i = none := gone_not (by unfold diffAt at h; rw [h]; simp)
theorem gpairs_get (i : Nat) (h : i < k) : (gpairs l k)[i]? = some (dpair (diffAt l i)) := by
  unfold gpairs
  rw [List.getElem?_map, List.getElem?_range h]
  rfl
theorem gpairs_mem {d : Nat × Bool} (h : d ∈ gpairs l k) : ∃ i, i < k ∧ d = dpair (diffAt l i) := by
  obtain ⟨i, hi, rfl⟩ := List.mem_map.1 h
  exact ⟨i, List.mem_range.1 hi, rfl⟩
theorem gpairs_head (h : 0 < k) : (gpairs l k).headD (0, false) = dpair (diffAt l 0) := by
  have h1 := gpairs_get (l := l) 0 h
  cases hg : gpairs l k with
  | nil => rw [hg] at h1; cases h1
  | cons a t => rw [hg] at h1; injection h1
/-- All are differences, and go one way: these are the sizes. -/
theorem gsizes_way (hk : 0 < k) (hok : ∀ i, i < k → (diffAt l i).2.2 = true) (hw : dway (gpairs l k) = true) : gsizes l (gfalls l) k = some (sizesOf (gpairs l k)) := by
  unfold gsizes sizesOf gpairs
  rw [List.map_map]
  refine omap_every fun i hi => ?_
  have hi := List.mem_range.1 hi
  have h0 := gdiff_ok (hok 0 hk)
  have hf : gfalls l = (diffAt l 0).2.1 := h0.1.symm
  unfold dway at hw
  rw [gpairs_head hk] at hw
  have h1 : dturns (dpair (diffAt l 0)).2 (dpair (diffAt l i)) = false := by
    have h2 : ((gpairs l k).any (dturns (dpair (diffAt l 0)).2)) = false := by simpa using hw
    rw [List.any_eq_false] at h2
    have h3 := h2 _ (List.mem_of_getElem? (gpairs_get (l := l) i hi))
    simpa using h3
  refine gone_yes (hok i hi) ?_
  rw [hf]
  unfold dturns dpair at h1
  dsimp only at h1
  by_cases hz : (diffAt l i).1 = 0
  · exact .inl hz
  · right
    have h4 : ((diffAt l i).1 != 0) = true := by simpa using hz
    rw [h4, Bool.true_and] at h1
    show (diffAt l i).2.1 = (diffAt l 0).2.1
    simpa using h1
/-- One goes another way: these are no sizes. -/
theorem gsizes_turn (hk : 0 < k) (hok : ∀ i, i < k → (diffAt l i).2.2 = true) (hw : dway (gpairs l k) = false) : gsizes l (gfalls l) k = none := by
  unfold dway at hw
  rw [gpairs_head hk] at hw
  have h2 : ((gpairs l k).any (dturns (dpair (diffAt l 0)).2)) = true := by simpa using hw
  obtain ⟨d, hd, ht⟩ := List.any_eq_true.1 h2
  obtain ⟨i, hi, rfl⟩ := gpairs_mem hd
  have hf : gfalls l = (diffAt l 0).2.1 := (gdiff_ok (hok 0 hk)).1.symm
  refine gsizes_none hi (gone_not ?_)
  rw [hf]
  unfold dturns dpair at ht
  dsimp only at ht
  rw [Bool.and_eq_true] at ht
  rintro ⟨_, h | h⟩
  · unfold diffAt at ht; rw [h] at ht; simp at ht
  · unfold diffAt at ht; rw [h] at ht; unfold diffAt at ht; simp at ht
/-- All differences are the same just where all sizes are. -/
theorem dsame_all (hk : 0 < k) (hok : ∀ i, i < k → (diffAt l i).2.2 = true) (hw : dway (gpairs l k) = true) : dsame (gpairs l k) = gall (sizesOf (gpairs l k)) := by
  have hhead := gpairs_head (l := l) hk
  have hs : (sizesOf (gpairs l k)).headD 0 = ((gpairs l k).headD (0, false)).1 := by unfold sizesOf; cases gpairs l k <;> rfl
  unfold dsame gall
  rw [hs]
  unfold sizesOf
  rw [List.all_map]
  rw [Bool.eq_iff_iff, List.all_eq_true, List.all_eq_true]
  constructor
  · intro h d hd
    have h1 : d = (gpairs l k).headD (0, false) := by simpa using h d hd
    show ((d.1 == ((gpairs l k).headD (0, false)).1)) = true
    rw [← h1]; simp
  · intro h d hd
    have h1 : d.1 = ((gpairs l k).headD (0, false)).1 := by have := h d hd; simpa using this
    have h2 : d.2 = ((gpairs l k).headD (0, false)).2 := by
      by_cases hz : d.1 = 0
      · have ha : ∀ e ∈ gpairs l k, e.1 = 0 → e.2 = false := by
          intro e he h0
          obtain ⟨i, hi, rfl⟩ := gpairs_mem he
          exact (gdiff_ok (hok i hi)).2 h0
        rw [ha d hd hz]
        have hm : (gpairs l k).headD (0, false) ∈ gpairs l k := by rw [hhead]; exact List.mem_of_getElem? (gpairs_get (l := l) 0 hk)
        exact (ha _ hm (by rw [← h1]; exact hz)).symm
      · unfold dway at hw
        have h3 : ((gpairs l k).any (dturns ((gpairs l k).headD (0, false)).2)) = false := by simpa using hw
        rw [List.any_eq_false] at h3
        have h4 := h3 d hd
        unfold dturns at h4
        have h5 : (d.1 != 0) = true := by simpa using hz
        rw [h5, Bool.true_and] at h4
        simpa using h4
    have h3 : d = (gpairs l k).headD (0, false) := Prod.ext h1 h2
    rw [← h3]; simp
theorem sizes_lt : ∀ d ∈ gpairs l k, d.1 < 2 ^ 63 := by
  intro d hd
  obtain ⟨i, _, rfl⟩ := gpairs_mem hd
  have := gdiff_lt (l.getD i 0) (l.getD (i + 1) 0)
  show (gdiff (l.getD i 0) (l.getD (i + 1) 0)).1 < 9223372036854775808
  omega
theorem first_step (hk : 0 < k) (hok : ∀ i, i < k → (diffAt l i).2.2 = true) : gstep 0 (diffAt l 0).1 (diffAt l 0).2.1 = (gfirst l (sizesOf (gpairs l k)), true) := by
  have hs : (sizesOf (gpairs l k)).headD 0 = (diffAt l 0).1 := by
    have h := gpairs_head (l := l) hk
    have h2 : (sizesOf (gpairs l k)).headD 0 = ((gpairs l k).headD (0, false)).1 := by unfold sizesOf; cases gpairs l k <;> rfl
    rw [h2, h]; rfl
  have hf : gfalls l = (diffAt l 0).2.1 := (gdiff_ok (hok 0 hk)).1.symm
  have hlt := gdiff_lt (l.getD 0 0) (l.getD (0 + 1) 0)
  unfold gfirst
  rw [hs, hf]
  unfold gstep
  rw [if_neg (by unfold diffAt; omega)]
  cases hb : (diffAt l 0).2.1 with
  | true =>
    simp only [if_true]
    rw [if_neg (by unfold diffAt; omega)]; congr 1; omega
  | false =>
    simp only [Bool.false_eq_true, if_false]
    rw [if_neg (by unfold diffAt; omega)]; congr 1; omega
theorem sizes_tail : sizesOf (gpairs l k).tail = (sizesOf (gpairs l k)).tail := by unfold sizesOf; rw [List.map_tail]
end

end Go.Proofs.YtlibofmpnlfelaaGreatDoor

/- delta's own contracts: Put. -/



namespace Go.Proofs.YtlibofmpnlfelaaGreatDoor

open Go.RowKit

theorem gtail_same {us : List Nat} (h : gall us = true) : gtail us = [] ∧ gnum us = 0 := ⟨by unfold gtail; rw [if_pos h], by unfold gnum; rw [if_pos h]⟩
theorem gtail_more {us : List Nat} (h : gall us = false) : gtail us = bpack us.tail (gwide us.tail) ∧ gnum us = gcode us.tail := by
  have h2 : ¬ gall us = true := by rw [h]; decide
  exact ⟨by unfold gtail; rw [if_neg h2], by unfold gnum; rw [if_neg h2]⟩
/-- pack, of differences that go one way. -/
theorem tpack_any (l : List Int) (m : Nat) (v : Value) (w : World) (ht : WTab w) (hd : IsR dc (gpairs l m) v w) (h1 : 1 ≤ m) (h5 : m ≤ 511) (hs : dsame (gpairs l m) = gall (sizesOf (gpairs l m))) :
    Calls Tryz.prog 150 #[v] w (RetPk w (gnum (sizesOf (gpairs l m))) (gtail (sizesOf (gpairs l m)))) := by
  cases h : gall (sizesOf (gpairs l m)) with
  | true =>
    rw [(gtail_same h).1, (gtail_same h).2]
    exact pack_same _ v w hd (by rw [gpairs_len]; omega) (by rw [hs, h])
  | false =>
    rw [(gtail_more h).1, (gtail_more h).2, ← sizes_tail]
    exact pack_more _ v w ht hd (by rw [gpairs_len]; omega) (by rw [gpairs_len]; omega) (by rw [hs, h]) sizes_lt
theorem gnum_le {us : List Nat} (h : ∀ u ∈ us, u < 2 ^ 64) : gnum us ≤ 31 := by
  unfold gnum
  split
  · omega
  · exact (gwide_int fun u hu => h u (List.mem_of_mem_tail hu)).2.2.2.2.2.2.1
/-- A tail is short. -/
theorem gtail_short {us : List Nat} (hl : us.length ≤ 512) (h : ∀ u ∈ us, u < 2 ^ 64) : (gtail us).length ≤ 5000 := by
  unfold gtail
  split
  · simp
  · rw [bpack_len]
    have h1 : (us.tail).length ≤ 512 := by rw [List.length_tail]; omega
    have h2 := (gwide_int fun u hu => h u (List.mem_of_mem_tail hu)).2.2.2.2.1
    exact Nat.le_trans (bsize_small h1 h2) (by omega)
set_option maxHeartbeats 8000000 in
set_option maxRecDepth 100000 in
theorem tput_own (l : List Int) (v : Value) (s : Bool) (w : World) (ht : WTab w) (hv : IsV iv l v w) (hl : ∀ x ∈ l, inInt x) (hb : l.length ≤ 1000000) : Calls Tryz.prog 120 #[v, .bool s] w (RetEO w (gputE l s)) := by
  obtain ⟨A, n, c, rfl⟩ := hv.shape
  have hn := hv.len
  by_cases h2 : n < 2 ∨ 512 < n
  · have hE := Lib.hid (gputE_no (s := s) (.inr (by rw [← hn]; exact h2) : dplain l s = none ∨ l.length < 2 ∨ 512 < l.length))
    have HC := Lib.hid (tcount_no (n : Int) w (by omega))
    clear hv hl hb hn h2 ht
    go_enter Tryz.func120, Tryz.ntmps120
    go_wp2_with (go_at_call 146; refine HC.out.mono ?_; rintro e w' ⟨rfl, rfl⟩)
    go_ret2
    rw [hE.out]
    exact RetEO.nil _ (Below.refl _ _)
  · have HN := Lib.hid hn
    have HV := Lib.hid hv
    have HT := Lib.hid ht
    have HL := Lib.hid hl
    have HC := Lib.hid (tcount_yes (n : Int) w (by omega) (by omega))
    have hn2 : 2 ≤ n := by omega
    have hn5 : n ≤ 512 := by omega
    obtain ⟨m, hm⟩ : ∃ m, m = n - 1 := ⟨_, rfl⟩
    have HM := Lib.hid (show l.length - 1 = m by omega)
    have hm1 : 1 ≤ m := by omega
    have hm5 : m ≤ 511 := by omega
    have HL0 := Lib.hid (show inInt (l.headD 0) by
      cases l with
      | nil => unfold inInt; simp
      | cons a t => exact hl a List.mem_cons_self)
    have hne : l ≠ [] := by rintro rfl; simp at hn; omega
    have HMIN := Lib.hid (min_any l (.slice A n c) w hv (by omega) hb)
    have HNEG := Lib.hid (lmin_neg hne)
    obtain ⟨mn, hmn⟩ : ∃ mn, mn = lmin l := ⟨_, rfl⟩
    rw [← hmn] at HMIN HNEG
    have HDF := Lib.hid (diffs_any l (.slice A n c) w hv hl (by omega) hb)
    clear hv ht hl hb h2 hn hne hmn hm
    cases s with
    | true =>
      have HPL := Lib.hid (dplain_some (l := l) (s := true) (.inl rfl))
      go_enter Tryz.func120, Tryz.ntmps120
      go_wp2_with (first | (go_at_call 146; refine HC.out.mono ?_; rintro e w' ⟨rfl, rfl⟩) | (go_at_call 147; refine HMIN.out.mono ?_; rintro e w' ⟨rfl, rfl⟩) | (go_at_call 148; refine HDF.out.mono ?_))
      rintro e w1 (⟨hok, dv1, rfl, hd1, hb1⟩ | ⟨⟨i, hi, hbad⟩, rfl, hb1⟩)
      · have HOK := Lib.hid (show ∀ i, i < m → (diffAt l i).2.2 = true from fun i hi => hok i (by have := HN.out; have := HM.out; omega))
        rw [HM.out] at hd1
        obtain ⟨DA, dn, dcap, rfl⟩ := hd1.shape
        have hdn : dn = m := by have := hd1.parts.1; rw [gpairs_len] at this; omega
        subst hdn
        have HD1 := Lib.hid hd1
        have HB1 := Lib.hid hb1
        have HT1 := Lib.hid (HT.out.below hb1 HT.out.lt)
        have HWAY := Lib.hid (way_any (gpairs l dn) (.slice DA dn dcap) w1 hd1 (by rw [gpairs_len]; exact hm1) (by rw [gpairs_len]; omega))
        clear hok hd1 hb1
        cases hway : dway (gpairs l dn) with
        | false =>
          have hE := Lib.hid (gputE_none (s := true) (show gsizes l (gfalls l) (l.length - 1) = none by rw [HM.out]; exact gsizes_turn hm1 HOK.out hway))
          rw [hway] at HWAY
          clear hway
          go_wp2_with (go_at_call 149; refine HWAY.out.mono ?_; rintro e w2 ⟨rfl, hb2⟩)
          go_ret2
          rw [hE.out]
          exact RetEO.nil _ (below_then HB1.out hb2)
        | true =>
          have HSZ := Lib.hid (gsizes_way hm1 HOK.out hway)
          have HSM := Lib.hid (dsame_all hm1 HOK.out hway)
          have hst := first_step hm1 HOK.out
          have hE := gputE_some (s := true) HPL.out (by have := HN.out; omega) (by have := HN.out; omega) (show gsizes l (gfalls l) (l.length - 1) = some (sizesOf (gpairs l dn)) by rw [HM.out]; exact HSZ.out)
          have hfi := (gfirst_diff (l := l) (us := sizesOf (gpairs l dn)) (by have := HN.out; omega) (by rw [HM.out]; exact HSZ.out)).2
          have h64 := gsizes_64 HSZ.out
          have HPK := Lib.hid (fun (w : World) ht hd => tpack_any l dn (.slice DA dn dcap) w ht hd hm1 (by omega) HSM.out)
          have hgn := gnum_le h64
          have HTB := Lib.hid (gtail_short (us := sizesOf (gpairs l dn)) (by rw [show (sizesOf (gpairs l dn)).length = dn by unfold sizesOf; rw [List.length_map, gpairs_len]]; omega) h64)
          unfold glay at hE
          obtain ⟨us, hus⟩ : ∃ us, us = sizesOf (gpairs l dn) := ⟨_, rfl⟩
          rw [← hus] at hE hst hfi HPK hgn HTB
          obtain ⟨G, hG⟩ : ∃ G, G = gnum us := ⟨_, rfl⟩
          obtain ⟨tl, htl⟩ : ∃ tl, tl = gtail us := ⟨_, rfl⟩
          obtain ⟨x1, hx1⟩ : ∃ x1, x1 = gfirst l us := ⟨_, rfl⟩
          obtain ⟨x0, hx0⟩ : ∃ x0, x0 = l.headD 0 := ⟨_, rfl⟩
          rw [← hG, ← htl, ← hx1, ← hx0, ← HN.out] at hE
          rw [← hG, ← htl] at HPK
          rw [← hG] at hgn
          rw [← htl] at HTB
          rw [← hx1] at hst hfi
          obtain ⟨u0, f0, ok0, hd0⟩ : ∃ u0 f0 ok0, diffAt l 0 = (u0, f0, ok0) := ⟨_, _, _, rfl⟩
          have hu0 : (u0 : Int) < 18446744073709551616 := by have h := gdiff_lt (l.getD 0 0) (l.getD (0 + 1) 0); unfold diffAt at hd0; rw [hd0] at h; dsimp only at h; omega
          rw [hd0] at hst
          have HSP := Lib.hid (fun (w : World) => step_any 0 u0 f0 w (by unfold inInt; omega) hu0)
          rw [hst] at HSP
          unfold RetG at HSP
          have HE2 := Lib.hid hE
          have HX1 := Lib.hid hfi
          have HG31 := Lib.hid hgn
          have HX0 := Lib.hid (show inInt x0 by rw [hx0]; exact HL0.out)
          have HC0 := Lib.hid (show ∀ W, Below w.heap.size w W → ∃ ad, A = some ad ∧ ad.block < W.heap.size ∧ W.cell? (ad.add 0) = some (.int .i64 x0) from fun W hW => by
            obtain ⟨ad, e1, e2, e3⟩ := (HV.out.below hW).at (k := 0) (by have := HN.out; omega)
            refine ⟨ad, e1, e2, ?_⟩
            rw [e3, hx0]
            cases l with
            | nil => have := HN.out; simp at this; omega
            | cons a t => rfl)
          have HDC := Lib.hid (show ∀ W, IsR dc (gpairs l dn) (.slice DA dn dcap) W → ∃ ad, DA = some ad ∧ ad.block < W.heap.size ∧ W.cell? ad = some (.int .u64 (u0 : Int)) ∧ W.cell? ⟨ad.block, ad.off + 1, none⟩ = some (.bool f0) from fun W hW => by
            obtain ⟨ad, e1, e2, e3⟩ := hW.at (m := 2) dc_len (by omega) (k := 0) (by rw [gpairs_len]; exact hm1)
            have e4 : (gpairs l dn)[0]? = some (u0, f0) := by rw [gpairs_get 0 hm1, hd0]; rfl
            rw [List.getElem?_eq_getElem (by rw [gpairs_len]; exact hm1)] at e4
            injection e4 with e4
            rw [e4] at e3
            have k0 := cells2 e3
            rw [Nat.zero_mul] at k0
            have ha0 : ad.add 0 = ad := by simp [Addr.add]
            rw [ha0] at k0
            exact ⟨ad, e1, e2, k0.1, k0.2⟩)
          rw [hway] at HWAY
          clear hway hE hst hfi h64 hgn hus hG htl hx1 hx0 hd0 hu0
          go_wp2_with fail
          refine HWAY.out.mono ?_
          rintro e w2 ⟨rfl, hb2⟩
          have HB2 := Lib.hid (below_then HB1.out hb2)
          have HT2 := Lib.hid (HT1.out.below hb2 HT1.out.lt)
          have HD2 := Lib.hid (HD1.out.below hb2)
          clear hb2
          go_wp2_with fail
          refine (HPK.out w2 HT2.out HD2.out).mono ?_
          rintro e w3 ⟨pv, rfl, hp3, hb3⟩
          have HB3 := Lib.hid (below_then HB2.out hb3)
          have HT3 := Lib.hid (HT2.out.below hb3 HT2.out.lt)
          have HP3 := Lib.hid hp3
          obtain ⟨da, rfl, hda, hdc1, hdc2⟩ := HDC.out w3 (HD2.out.below hb3)
          clear hb3 hp3
          have ha0 : da.add 0 = da := by simp [Addr.add]
          go_wp2_with fail
          refine (HSP.out w3).mono ?_
          rintro e w4 ⟨rfl, hb4⟩
          have HB4 := Lib.hid (below_then HB3.out hb4)
          have HT4 := Lib.hid (HT3.out.below hb4 HT3.out.lt)
          have HP4 := Lib.hid (IsB.below HP3.out hb4)
          clear hb4 hdc1 hdc2 hda ha0
          go_wp2
          obtain ⟨ad, rfl, had, _⟩ := HC0.out w4 HB4.out
          refine wp_region_list [.is (.int .i64 (G : Int)), .is (.slice (some ad) n c), .is (.int .i64 (n : Int)), .bytes (dheadN 3 G n), .is (.slice (some ad) n c), .is (.pointer (some (ad.add 0))), .is (.int .i64 x0), .is (.bool true), .bytes (dheadN 3 G n ++ vput (vint x0 true)), .bytes (dheadN 3 G n ++ vput (vint x0 true))] [some 55, some 56, some 57, some 58, some 59, some 60, some 61, some 62, some 63, some 13] (by kernel_rfl) (by kernel_rfl) (by kernel_rfl) rfl ⟨?_, ?_, ?_, ?_, ?_, ?_, ?_, ?_, ?_, ?_, trivial⟩ ?_
          · intro ρ W1 hb1 H
            exact gives_move rfl (H.old 8 _ (by kernel_rfl) rfl) ⟨rfl, Below.refl _ _⟩
          · intro ρ W1 hb1 H
            exact gives_move rfl (H.old 0 _ (by kernel_rfl) rfl) ⟨rfl, Below.refl _ _⟩
          · intro ρ W1 hb1 H
            exact gives_len Tryz.underlying34 rfl (H.new 56 1 (by kernel_rfl)) ⟨rfl, Below.refl _ _⟩
          · intro ρ W1 hb1 H
            have e0 : ρ (.tmp 55) = .int .i64 (G : Int) := H.new 55 0 (by kernel_rfl)
            have e1 : ρ (.tmp 57) = .int .i64 (n : Int) := H.new 57 2 (by kernel_rfl)
            refine gives_call rfl (fun _ _ => by kernel_rfl) (H.func _) (args := #[.int .i64 3, .int .i64 (G : Int), .int .i64 (n : Int)]) (by simp [e0, e1, H.const]) ?_
            have hG := HG31.out
            refine (dhead_any 3 (G : Int) (n : Int) W1 (HT4.out.below hb1 HT4.out.lt) (by unfold inInt; omega) (by unfold inInt; omega) (by unfold inInt; omega)).mono ?_
            rintro e w' ⟨u, h1, h2, h3⟩
            rw [show ((3 : Int)) = ((3 : Nat) : Int) from rfl, dhead_in (by omega) hG (by omega) (by omega)] at h2
            exact ⟨_, h1, h2, h3⟩
          · intro ρ W1 hb1 H
            exact gives_move rfl (H.old 0 _ (by kernel_rfl) rfl) ⟨rfl, Below.refl _ _⟩
          · intro ρ W1 hb1 H
            exact gives_index (k := 0) elemI rfl (H.new 59 4 (by kernel_rfl)) (H.const _) (by omega) ⟨rfl, Below.refl _ _⟩
          · intro ρ W1 hb1 H
            obtain ⟨ad', e1, _, e2⟩ := HC0.out W1 (below_then HB4.out hb1)
            injection e1 with e1
            subst e1
            exact gives_load rfl (H.new 60 5 (by kernel_rfl)) Tryz.underlying3 rfl e2 ⟨rfl, Below.refl _ _⟩
          · intro ρ W1 hb1 H
            exact gives_move rfl (H.old 1 _ (by kernel_rfl) rfl) ⟨rfl, Below.refl _ _⟩
          · intro ρ W1 hb1 H
            have e0 : IsB (dheadN 3 G n) (ρ (.tmp 58)) W1 := H.new 58 3 (by kernel_rfl)
            have e1 : ρ (.tmp 61) = .int .i64 x0 := H.new 61 6 (by kernel_rfl)
            have e2 : ρ (.tmp 62) = .bool true := H.new 62 7 (by kernel_rfl)
            obtain ⟨hv, hhv⟩ : ∃ hv, hv = ρ (.tmp 58) := ⟨_, rfl⟩
            rw [← hhv] at e0
            refine gives_call rfl (fun _ _ => by kernel_rfl) (H.func _) (args := #[hv, .int .i64 x0, .bool true]) (by simp [hhv, e1, e2]) ?_
            exact (putInt_isB x0 true e0 (by rw [dheadN_len]; omega) HX0.out.1 HX0.out.2).mono fun e w' ⟨u, h1, h2, h3⟩ => ⟨_, h1, h2, h3⟩
          · intro ρ W1 hb1 H
            exact gives_assign rfl rfl ⟨H.new 63 8 (by kernel_rfl), Below.refl _ _⟩
          · intro vs W1 hb1 hfs
            have f9 : IsB (dheadN 3 G n ++ vput (vint x0 true)) (vs 9) W1 := hfs 9 (by decide)
            clear hfs
            simp only [putAll, Nat.zero_add, Nat.reduceAdd]
            generalize vs 0 = z0
            generalize vs 1 = z1
            generalize vs 2 = z2
            generalize vs 3 = z3
            generalize vs 4 = z4
            generalize vs 5 = z5
            generalize vs 6 = z6
            generalize vs 7 = z7
            generalize vs 8 = z8
            generalize vs 9 = z9 at f9 ⊢
            simp only [Act.put, List.setIfInBounds_toArray, List.set_cons_succ, List.set_cons_zero]
            have HO := Lib.hid f9
            have HBa := Lib.hid (below_then HB4.out hb1)
            have HP5 := Lib.hid (IsB.below HP4.out hb1)
            have HLN := Lib.hid (show (dheadN 3 G n ++ vput (vint x0 true)).length ≤ 1000 by rw [List.length_append, dheadN_len]; have := vput_len_10 (x := vint x0 true) (vint_64 HX0.out); omega)
            clear f9 hb1
            go_wp2_with fail
            refine (putInt_isO x1 true HO.out (by have := HLN.out; omega) HX1.out.1 HX1.out.2).mono ?_
            rintro e w6 ⟨v6, rfl, hown6, hb6⟩
            have hp6 := IsB.below HP5.out hb6
            obtain ⟨A7, n7, c7, rfl⟩ := IsV.shape (f := bv) hp6
            obtain ⟨hn7, hA7, -, -, hl7⟩ := IsV.parts (f := bv) (show IsV bv _ _ _ from hp6)
            have hM7 : (tl.map bv).length = n7 := by rw [List.length_map]; exact hn7
            have hn7b : n7 ≤ 5000 := by rw [← hn7]; exact HTB.out
            have HM7 := Lib.hid hM7
            have hzz6 := hb6.size
            obtain ⟨K6, hK6⟩ : ∃ K, K = (dheadN 3 G n ++ vput (vint x0 true) ++ vput (vint x1 true)).length := ⟨_, rfl⟩
            have hK6b : K6 ≤ 2000 := by rw [hK6, List.length_append]; have := vput_len_10 (x := vint x1 true) (vint_64 HX1.out); have := HLN.out; omega
            rw [← hK6] at hown6
            have HK6 := Lib.hid hK6
            obtain ⟨xs6, hx6⟩ : ∃ xs, xs = (dheadN 3 G n ++ vput (vint x0 true) ++ vput (vint x1 true)).map bv := ⟨_, rfl⟩
            rw [← hx6] at hown6
            have HX6 := Lib.hid hx6
            clear hp6 hM7 hn7 hK6 hx6
            go_wp2_with (at_builtin; refine wpList_join elemB rfl _ _ rfl W1.heap.size _ _ _ _ _ _ (tl.map bv) W1 rfl rfl hA7 HM7.out hl7 (bv_one _) hown6 hb6 hzz6 (by omega) (by omega) ?_)
            intro v8 w8 hown8 hb8 _ _
            have HI9 := Lib.hid (show w8.ownsRow w.heap.size 5 1 v8 (dheadN 3 G n ++ vput (vint x0 true) ++ vput (vint x1 true) ++ tl).length ((dheadN 3 G n ++ vput (vint x0 true) ++ vput (vint x1 true) ++ tl).map bv) by
              rw [List.map_append, ← HX6.out, List.length_append, ← HK6.out, show tl.length = n7 by have := HM7.out; rwa [List.length_map] at this]
              exact own_base HBa.out.size hown8)
            have HB9 := Lib.hid (below_then HBa.out hb8)
            clear hown8 hb8 hown6 hzz6
            go_wp2
            go_ret2
            rw [HE2.out]
            exact ⟨_, rfl, HI9.out, HB9.out⟩
      · have hE := Lib.hid (gputE_none (s := true) (show gsizes l (gfalls l) (l.length - 1) = none from gsizes_none (k := i) (by omega) (gat_bad hbad)))
        clear hi hbad
        go_wp2
        go_ret2
        rw [hE.out]
        exact RetEO.nil _ hb1
    | false =>
      by_cases h0 : mn < 0
      · have d0 : decide (mn < 0) = true := decide_eq_true h0
        have hE := Lib.hid (gputE_no (l := l) (s := false) (.inl (by obtain ⟨x, hx, hx0⟩ := HNEG.out.1 h0; exact dplain_neg hx hx0)))
        clear h0
        go_enter Tryz.func120, Tryz.ntmps120
        go_wp2_with (first | (go_at_call 146; refine HC.out.mono ?_; rintro e w' ⟨rfl, rfl⟩) | (go_at_call 147; refine HMIN.out.mono ?_; rintro e w' ⟨rfl, rfl⟩))
        go_ret2
        rw [hE.out]
        exact RetEO.nil _ (Below.refl _ _)
      have d0 : decide (mn < 0) = false := decide_eq_false h0
      have HPL := Lib.hid (dplain_some (l := l) (s := false) (.inr fun x hx => by
        by_cases h : x < 0
        · exact absurd (HNEG.out.2 ⟨x, hx, h⟩) h0
        · omega))
      clear h0
      go_enter Tryz.func120, Tryz.ntmps120
      go_wp2_with (first | (go_at_call 146; refine HC.out.mono ?_; rintro e w' ⟨rfl, rfl⟩) | (go_at_call 147; refine HMIN.out.mono ?_; rintro e w' ⟨rfl, rfl⟩) | (go_at_call 148; refine HDF.out.mono ?_))
      rintro e w1 (⟨hok, dv1, rfl, hd1, hb1⟩ | ⟨⟨i, hi, hbad⟩, rfl, hb1⟩)
      · have HOK := Lib.hid (show ∀ i, i < m → (diffAt l i).2.2 = true from fun i hi => hok i (by have := HN.out; have := HM.out; omega))
        rw [HM.out] at hd1
        obtain ⟨DA, dn, dcap, rfl⟩ := hd1.shape
        have hdn : dn = m := by have := hd1.parts.1; rw [gpairs_len] at this; omega
        subst hdn
        have HD1 := Lib.hid hd1
        have HB1 := Lib.hid hb1
        have HT1 := Lib.hid (HT.out.below hb1 HT.out.lt)
        have HWAY := Lib.hid (way_any (gpairs l dn) (.slice DA dn dcap) w1 hd1 (by rw [gpairs_len]; exact hm1) (by rw [gpairs_len]; omega))
        clear hok hd1 hb1
        cases hway : dway (gpairs l dn) with
        | false =>
          have hE := Lib.hid (gputE_none (s := false) (show gsizes l (gfalls l) (l.length - 1) = none by rw [HM.out]; exact gsizes_turn hm1 HOK.out hway))
          rw [hway] at HWAY
          clear hway
          go_wp2_with (go_at_call 149; refine HWAY.out.mono ?_; rintro e w2 ⟨rfl, hb2⟩)
          go_ret2
          rw [hE.out]
          exact RetEO.nil _ (below_then HB1.out hb2)
        | true =>
          have HSZ := Lib.hid (gsizes_way hm1 HOK.out hway)
          have HSM := Lib.hid (dsame_all hm1 HOK.out hway)
          have hst := first_step hm1 HOK.out
          have hE := gputE_some (s := false) HPL.out (by have := HN.out; omega) (by have := HN.out; omega) (show gsizes l (gfalls l) (l.length - 1) = some (sizesOf (gpairs l dn)) by rw [HM.out]; exact HSZ.out)
          have hfi := (gfirst_diff (l := l) (us := sizesOf (gpairs l dn)) (by have := HN.out; omega) (by rw [HM.out]; exact HSZ.out)).2
          have h64 := gsizes_64 HSZ.out
          have HPK := Lib.hid (fun (w : World) ht hd => tpack_any l dn (.slice DA dn dcap) w ht hd hm1 (by omega) HSM.out)
          have hgn := gnum_le h64
          have HTB := Lib.hid (gtail_short (us := sizesOf (gpairs l dn)) (by rw [show (sizesOf (gpairs l dn)).length = dn by unfold sizesOf; rw [List.length_map, gpairs_len]]; omega) h64)
          unfold glay at hE
          obtain ⟨us, hus⟩ : ∃ us, us = sizesOf (gpairs l dn) := ⟨_, rfl⟩
          rw [← hus] at hE hst hfi HPK hgn HTB
          obtain ⟨G, hG⟩ : ∃ G, G = gnum us := ⟨_, rfl⟩
          obtain ⟨tl, htl⟩ : ∃ tl, tl = gtail us := ⟨_, rfl⟩
          obtain ⟨x1, hx1⟩ : ∃ x1, x1 = gfirst l us := ⟨_, rfl⟩
          obtain ⟨x0, hx0⟩ : ∃ x0, x0 = l.headD 0 := ⟨_, rfl⟩
          rw [← hG, ← htl, ← hx1, ← hx0, ← HN.out] at hE
          rw [← hG, ← htl] at HPK
          rw [← hG] at hgn
          rw [← htl] at HTB
          rw [← hx1] at hst hfi
          obtain ⟨u0, f0, ok0, hd0⟩ : ∃ u0 f0 ok0, diffAt l 0 = (u0, f0, ok0) := ⟨_, _, _, rfl⟩
          have hu0 : (u0 : Int) < 18446744073709551616 := by have h := gdiff_lt (l.getD 0 0) (l.getD (0 + 1) 0); unfold diffAt at hd0; rw [hd0] at h; dsimp only at h; omega
          rw [hd0] at hst
          have HSP := Lib.hid (fun (w : World) => step_any 0 u0 f0 w (by unfold inInt; omega) hu0)
          rw [hst] at HSP
          unfold RetG at HSP
          have HE2 := Lib.hid hE
          have HX1 := Lib.hid hfi
          have HG31 := Lib.hid hgn
          have HX0 := Lib.hid (show inInt x0 by rw [hx0]; exact HL0.out)
          have HC0 := Lib.hid (show ∀ W, Below w.heap.size w W → ∃ ad, A = some ad ∧ ad.block < W.heap.size ∧ W.cell? (ad.add 0) = some (.int .i64 x0) from fun W hW => by
            obtain ⟨ad, e1, e2, e3⟩ := (HV.out.below hW).at (k := 0) (by have := HN.out; omega)
            refine ⟨ad, e1, e2, ?_⟩
            rw [e3, hx0]
            cases l with
            | nil => have := HN.out; simp at this; omega
            | cons a t => rfl)
          have HDC := Lib.hid (show ∀ W, IsR dc (gpairs l dn) (.slice DA dn dcap) W → ∃ ad, DA = some ad ∧ ad.block < W.heap.size ∧ W.cell? ad = some (.int .u64 (u0 : Int)) ∧ W.cell? ⟨ad.block, ad.off + 1, none⟩ = some (.bool f0) from fun W hW => by
            obtain ⟨ad, e1, e2, e3⟩ := hW.at (m := 2) dc_len (by omega) (k := 0) (by rw [gpairs_len]; exact hm1)
            have e4 : (gpairs l dn)[0]? = some (u0, f0) := by rw [gpairs_get 0 hm1, hd0]; rfl
            rw [List.getElem?_eq_getElem (by rw [gpairs_len]; exact hm1)] at e4
            injection e4 with e4
            rw [e4] at e3
            have k0 := cells2 e3
            rw [Nat.zero_mul] at k0
            have ha0 : ad.add 0 = ad := by simp [Addr.add]
            rw [ha0] at k0
            exact ⟨ad, e1, e2, k0.1, k0.2⟩)
          rw [hway] at HWAY
          clear hway hE hst hfi h64 hgn hus hG htl hx1 hx0 hd0 hu0
          go_wp2_with fail
          refine HWAY.out.mono ?_
          rintro e w2 ⟨rfl, hb2⟩
          have HB2 := Lib.hid (below_then HB1.out hb2)
          have HT2 := Lib.hid (HT1.out.below hb2 HT1.out.lt)
          have HD2 := Lib.hid (HD1.out.below hb2)
          clear hb2
          go_wp2_with fail
          refine (HPK.out w2 HT2.out HD2.out).mono ?_
          rintro e w3 ⟨pv, rfl, hp3, hb3⟩
          have HB3 := Lib.hid (below_then HB2.out hb3)
          have HT3 := Lib.hid (HT2.out.below hb3 HT2.out.lt)
          have HP3 := Lib.hid hp3
          obtain ⟨da, rfl, hda, hdc1, hdc2⟩ := HDC.out w3 (HD2.out.below hb3)
          clear hb3 hp3
          have ha0 : da.add 0 = da := by simp [Addr.add]
          go_wp2_with fail
          refine (HSP.out w3).mono ?_
          rintro e w4 ⟨rfl, hb4⟩
          have HB4 := Lib.hid (below_then HB3.out hb4)
          have HT4 := Lib.hid (HT3.out.below hb4 HT3.out.lt)
          have HP4 := Lib.hid (IsB.below HP3.out hb4)
          clear hb4 hdc1 hdc2 hda ha0
          go_wp2
          obtain ⟨ad, rfl, had, _⟩ := HC0.out w4 HB4.out
          refine wp_region_list [.is (.int .i64 (G : Int)), .is (.slice (some ad) n c), .is (.int .i64 (n : Int)), .bytes (dheadN 3 G n), .is (.slice (some ad) n c), .is (.pointer (some (ad.add 0))), .is (.int .i64 x0), .is (.bool false), .bytes (dheadN 3 G n ++ vput (vint x0 false)), .bytes (dheadN 3 G n ++ vput (vint x0 false))] [some 55, some 56, some 57, some 58, some 59, some 60, some 61, some 62, some 63, some 13] (by kernel_rfl) (by kernel_rfl) (by kernel_rfl) rfl ⟨?_, ?_, ?_, ?_, ?_, ?_, ?_, ?_, ?_, ?_, trivial⟩ ?_
          · intro ρ W1 hb1 H
            exact gives_move rfl (H.old 8 _ (by kernel_rfl) rfl) ⟨rfl, Below.refl _ _⟩
          · intro ρ W1 hb1 H
            exact gives_move rfl (H.old 0 _ (by kernel_rfl) rfl) ⟨rfl, Below.refl _ _⟩
          · intro ρ W1 hb1 H
            exact gives_len Tryz.underlying34 rfl (H.new 56 1 (by kernel_rfl)) ⟨rfl, Below.refl _ _⟩
          · intro ρ W1 hb1 H
            have e0 : ρ (.tmp 55) = .int .i64 (G : Int) := H.new 55 0 (by kernel_rfl)
            have e1 : ρ (.tmp 57) = .int .i64 (n : Int) := H.new 57 2 (by kernel_rfl)
            refine gives_call rfl (fun _ _ => by kernel_rfl) (H.func _) (args := #[.int .i64 3, .int .i64 (G : Int), .int .i64 (n : Int)]) (by simp [e0, e1, H.const]) ?_
            have hG := HG31.out
            refine (dhead_any 3 (G : Int) (n : Int) W1 (HT4.out.below hb1 HT4.out.lt) (by unfold inInt; omega) (by unfold inInt; omega) (by unfold inInt; omega)).mono ?_
            rintro e w' ⟨u, h1, h2, h3⟩
            rw [show ((3 : Int)) = ((3 : Nat) : Int) from rfl, dhead_in (by omega) hG (by omega) (by omega)] at h2
            exact ⟨_, h1, h2, h3⟩
          · intro ρ W1 hb1 H
            exact gives_move rfl (H.old 0 _ (by kernel_rfl) rfl) ⟨rfl, Below.refl _ _⟩
          · intro ρ W1 hb1 H
            exact gives_index (k := 0) elemI rfl (H.new 59 4 (by kernel_rfl)) (H.const _) (by omega) ⟨rfl, Below.refl _ _⟩
          · intro ρ W1 hb1 H
            obtain ⟨ad', e1, _, e2⟩ := HC0.out W1 (below_then HB4.out hb1)
            injection e1 with e1
            subst e1
            exact gives_load rfl (H.new 60 5 (by kernel_rfl)) Tryz.underlying3 rfl e2 ⟨rfl, Below.refl _ _⟩
          · intro ρ W1 hb1 H
            exact gives_move rfl (H.old 1 _ (by kernel_rfl) rfl) ⟨rfl, Below.refl _ _⟩
          · intro ρ W1 hb1 H
            have e0 : IsB (dheadN 3 G n) (ρ (.tmp 58)) W1 := H.new 58 3 (by kernel_rfl)
            have e1 : ρ (.tmp 61) = .int .i64 x0 := H.new 61 6 (by kernel_rfl)
            have e2 : ρ (.tmp 62) = .bool false := H.new 62 7 (by kernel_rfl)
            obtain ⟨hv, hhv⟩ : ∃ hv, hv = ρ (.tmp 58) := ⟨_, rfl⟩
            rw [← hhv] at e0
            refine gives_call rfl (fun _ _ => by kernel_rfl) (H.func _) (args := #[hv, .int .i64 x0, .bool false]) (by simp [hhv, e1, e2]) ?_
            exact (putInt_isB x0 false e0 (by rw [dheadN_len]; omega) HX0.out.1 HX0.out.2).mono fun e w' ⟨u, h1, h2, h3⟩ => ⟨_, h1, h2, h3⟩
          · intro ρ W1 hb1 H
            exact gives_assign rfl rfl ⟨H.new 63 8 (by kernel_rfl), Below.refl _ _⟩
          · intro vs W1 hb1 hfs
            have f9 : IsB (dheadN 3 G n ++ vput (vint x0 false)) (vs 9) W1 := hfs 9 (by decide)
            clear hfs
            simp only [putAll, Nat.zero_add, Nat.reduceAdd]
            generalize vs 0 = z0
            generalize vs 1 = z1
            generalize vs 2 = z2
            generalize vs 3 = z3
            generalize vs 4 = z4
            generalize vs 5 = z5
            generalize vs 6 = z6
            generalize vs 7 = z7
            generalize vs 8 = z8
            generalize vs 9 = z9 at f9 ⊢
            simp only [Act.put, List.setIfInBounds_toArray, List.set_cons_succ, List.set_cons_zero]
            have HO := Lib.hid f9
            have HBa := Lib.hid (below_then HB4.out hb1)
            have HP5 := Lib.hid (IsB.below HP4.out hb1)
            have HLN := Lib.hid (show (dheadN 3 G n ++ vput (vint x0 false)).length ≤ 1000 by rw [List.length_append, dheadN_len]; have := vput_len_10 (x := vint x0 false) (vint_64 HX0.out); omega)
            clear f9 hb1
            go_wp2_with fail
            refine (putInt_isO x1 true HO.out (by have := HLN.out; omega) HX1.out.1 HX1.out.2).mono ?_
            rintro e w6 ⟨v6, rfl, hown6, hb6⟩
            have hp6 := IsB.below HP5.out hb6
            obtain ⟨A7, n7, c7, rfl⟩ := IsV.shape (f := bv) hp6
            obtain ⟨hn7, hA7, -, -, hl7⟩ := IsV.parts (f := bv) (show IsV bv _ _ _ from hp6)
            have hM7 : (tl.map bv).length = n7 := by rw [List.length_map]; exact hn7
            have hn7b : n7 ≤ 5000 := by rw [← hn7]; exact HTB.out
            have HM7 := Lib.hid hM7
            have hzz6 := hb6.size
            obtain ⟨K6, hK6⟩ : ∃ K, K = (dheadN 3 G n ++ vput (vint x0 false) ++ vput (vint x1 true)).length := ⟨_, rfl⟩
            have hK6b : K6 ≤ 2000 := by rw [hK6, List.length_append]; have := vput_len_10 (x := vint x1 true) (vint_64 HX1.out); have := HLN.out; omega
            rw [← hK6] at hown6
            have HK6 := Lib.hid hK6
            obtain ⟨xs6, hx6⟩ : ∃ xs, xs = (dheadN 3 G n ++ vput (vint x0 false) ++ vput (vint x1 true)).map bv := ⟨_, rfl⟩
            rw [← hx6] at hown6
            have HX6 := Lib.hid hx6
            clear hp6 hM7 hn7 hK6 hx6
            go_wp2_with (at_builtin; refine wpList_join elemB rfl _ _ rfl W1.heap.size _ _ _ _ _ _ (tl.map bv) W1 rfl rfl hA7 HM7.out hl7 (bv_one _) hown6 hb6 hzz6 (by omega) (by omega) ?_)
            intro v8 w8 hown8 hb8 _ _
            have HI9 := Lib.hid (show w8.ownsRow w.heap.size 5 1 v8 (dheadN 3 G n ++ vput (vint x0 false) ++ vput (vint x1 true) ++ tl).length ((dheadN 3 G n ++ vput (vint x0 false) ++ vput (vint x1 true) ++ tl).map bv) by
              rw [List.map_append, ← HX6.out, List.length_append, ← HK6.out, show tl.length = n7 by have := HM7.out; rwa [List.length_map] at this]
              exact own_base HBa.out.size hown8)
            have HB9 := Lib.hid (below_then HBa.out hb8)
            clear hown8 hb8 hown6 hzz6
            go_wp2
            go_ret2
            rw [HE2.out]
            exact ⟨_, rfl, HI9.out, HB9.out⟩
      · have hE := Lib.hid (gputE_none (s := false) (show gsizes l (gfalls l) (l.length - 1) = none from gsizes_none (k := i) (by omega) (gat_bad hbad)))
        clear hi hbad
        go_wp2
        go_ret2
        rw [hE.out]
        exact RetEO.nil _ hb1
theorem tput_any (l : List Int) (v : Value) (s : Bool) (w : World) (ht : WTab w) (hv : IsV iv l v w) (hl : ∀ x ∈ l, inInt x) (hb : l.length ≤ 1000000) : Calls Tryz.prog 120 #[v, .bool s] w (RetE w (gputE l s)) := (tput_own l v s w ht hv hl hb).mono fun _ _ h => h.e
end Go.Proofs.YtlibofmpnlfelaaGreatDoor

/- delta's own contracts: Take; all four together. -/



namespace Go.Proofs.YtlibofmpnlfelaaGreatDoor

open Go.RowKit

theorem takeInt_none {l : List UInt8} {v : Value} {w : World} (s : Bool) (h : IsB l v w) (hl : l.length ≤ 1000000) (hn : vtint l s = none) : Calls Tryz.prog 154 #[v, .bool s] w fun e w' => ∃ r, e = .returned (.tuple #[.int .i64 0, r, .int .i64 2]) ∧ Below w.heap.size w w' := by
  refine (takeInt_isB s h hl).mono fun e w' h => ?_
  obtain ⟨r, h1, _, h3⟩ := h.parts
  rw [hn] at h1
  exact ⟨r, h1, h3⟩
theorem takeInt_some {l r : List UInt8} {v : Value} {w : World} {x : Int} (s : Bool) (h : IsB l v w) (hl : l.length ≤ 1000000) (hn : vtint l s = some (x, r)) : Calls Tryz.prog 154 #[v, .bool s] w fun e w' => ∃ u, e = .returned (.tuple #[.int .i64 x, u, .int .i64 0]) ∧ OwnB w r u w' ∧ Below w.heap.size w w' := by
  refine (takeInt_isB s h hl).mono fun e w' h => ?_
  obtain ⟨u, h1, h2, h3⟩ := h.owned
  rw [hn] at h1 h2
  exact ⟨u, h1, h2, h3⟩
/-- The sizes of a run, and what is behind. -/
def gup (r : List UInt8) (C M u0 : Nat) : Option (List Nat × List UInt8) :=
  if C = 0 then some (List.replicate (M - 1) u0, r)
  else if (unpacksAny r (M - 2 : Nat) (wof C)).2.2 = 0 then some (u0 :: (unpacksAny r (M - 2 : Nat) (wof C)).1, (unpacksAny r (M - 2 : Nat) (wof C)).2.1) else none
def gover (s f : Bool) (x : Int) : Option (List Nat × List UInt8) → List Int × List UInt8 × Int
  | none => ([], [], 2)
  | some p => gend s f x p.1 p.2
theorem gmore_up {s f : Bool} {x : Int} {u0 C M : Nat} {r : List UInt8} (hM : 2 ≤ M) : gmore s f x u0 (C : Int) (M : Int) r = gover s f x (gup r C M u0) := by
  unfold gup
  by_cases h0 : C = 0
  · subst h0
    rw [if_pos rfl, gmore_zero (by omega), show ((M : Int) - 1).toNat = M - 1 by omega]
    rfl
  · rw [if_neg h0]
    obtain ⟨us, q, e, hu⟩ : ∃ us q e, unpacksAny r (M - 2 : Nat) (wof C) = (us, q, e) := ⟨_, _, _, rfl⟩
    have hu2 : unpacksAny r ((M : Int) - 2) (wof C) = (us, q, e) := by rw [← hu]; congr 1; omega
    rw [hu]
    dsimp only
    by_cases he : e = 0
    · subst he
      rw [if_pos rfl, gmore_good (by omega) hu2]
      rfl
    · rw [if_neg he, gmore_bad (by omega) hu2 he]
      rfl
/-- What unpack answers, in the one way and in the other. -/
def RetUq (f : Bool) (o : Option (List Nat × List UInt8)) (w0 w : World) (e : Ending) (w' : World) : Prop :=
  match o with
  | none => e = .returned (.tuple #[.slice none 0 0, .slice none 0 0, .bool false]) ∧ Below w.heap.size w w'
  | some p => ∃ u r, e = .returned (.tuple #[u, r, .bool true]) ∧ IsR dc (toward f p.1) u w' ∧ OwnB w0 p.2 r w' ∧ Below w.heap.size w w'
theorem dunpack_is (r : List UInt8) (v : Value) (C M : Nat) (d : Int) (u0 : Nat) (f : Bool) (w0 w : World) (ht : WTab w) (hv : OwnB w0 r v w) (h00 : w0.heap.size ≤ w.heap.size) (hb : r.length ≤ 1000000) (hC : C ≤ 31) (hM2 : 2 ≤ M) (hM : M ≤ 512) (hd : inInt d) (hx : gdiff 0 d = (u0, f, true)) :
    Calls Tryz.prog 155 #[v, .int .i64 (C : Int), .int .i64 (M : Int), .int .i64 d] w (RetUq f (gup r C M u0) w0 w) := by
  unfold gup
  by_cases h0 : C = 0
  · subst h0
    rw [if_pos rfl]
    refine (unpack_zero v M d u0 f w hM2 hM hd hx).mono ?_
    rintro e w' ⟨u, h1, h2, h3⟩
    exact ⟨u, v, h1, h2, hv.below h3, h3⟩
  · rw [if_neg h0]
    refine (unpack_more r v C M d u0 f w ht hv.isB hb (by omega) hC hM2 hM hd hx).mono ?_
    intro e w' h
    split at h
    · rename_i he
      rw [if_pos he]
      obtain ⟨u, q, h1, h2, h3, h4⟩ := h
      exact ⟨u, q, h1, h2, OwnB.base h00 h3, h4⟩
    · rename_i he
      rw [if_neg he]
      exact h
theorem gup_bd {r q : List UInt8} {C M u0 : Nat} {us : List Nat} (h : gup r C M u0 = some (us, q)) (hM2 : 2 ≤ M) (hM : M ≤ 512) (hu : u0 < 2 ^ 64) : us.length ≤ 1000 ∧ ∀ u ∈ us, u < 2 ^ 64 := by
  unfold gup at h
  by_cases h0 : C = 0
  · rw [if_pos h0] at h
    injection h with h
    injection h with h1 h2
    subst h1
    refine ⟨by rw [List.length_replicate]; omega, fun u hm => ?_⟩
    rw [List.eq_of_mem_replicate hm]
    exact hu
  · rw [if_neg h0] at h
    obtain ⟨vs, q', e, hv⟩ : ∃ us q e, unpacksAny r (M - 2 : Nat) (wof C) = (us, q, e) := ⟨_, _, _, rfl⟩
    rw [hv] at h
    dsimp only at h
    split at h
    · rename_i he
      subst he
      injection h with h
      injection h with h1 h2
      subst h1
      have h3 := unpacksAny_len hv
      have h4 : ∀ u ∈ vs, u < 2 ^ 64 := by have h := (unpacksAny_lt (l := r) (M := (M - 2 : Nat)) (W := wof C)).1; rw [hv] at h; exact h
      refine ⟨by rw [List.length_cons]; omega, fun u hm => ?_⟩
      rcases List.mem_cons.1 hm with rfl | hm
      · exact hu
      · exact h4 u hm
    · cases h
set_option maxHeartbeats 8000000 in
set_option maxRecDepth 100000 in
theorem ttake_own (l : List UInt8) (v : Value) (s : Bool) (w : World) (ht : WTab w) (hv : IsB l v w) (hb : l.length ≤ 1000000) : Calls Tryz.prog 121 #[v, .bool s] w (RetIO w (gtakeE l s)) := by
  have HLK := Lib.hid (dlook_any l v w hv hb)
  unfold RetK at HLK
  have HT := Lib.hid ht
  rcases dlook_or l with ⟨_, hd⟩ | ⟨_, K, C, M, hK, hC, hM1, hM, hd⟩
  · have hE := Lib.hid (gtakeE_head (l := l) (s := s) (.inl (by rw [hd]; decide)))
    rw [hd] at HLK
    dsimp only at HLK
    clear hd ht hv hb
    go_enter Tryz.func121, Tryz.ntmps121
    go_wp2_with fail
    refine HLK.out.mono ?_
    rintro e w1 ⟨v1, rfl, _, hb1⟩
    go_wp2
    go_ret3
    rw [hE.out]
    exact RetIO.nil _ hb1
  · by_cases hk : K = 3 ∧ 2 ≤ M
    · obtain ⟨hk3, hM2⟩ := hk
      subst hk3
      have hE0 := Lib.hid (gtakeE_in (s := s) hd (by omega))
      rw [hd] at HLK
      dsimp only at HLK
      have HRL := Lib.hid (show (l.drop 2).length ≤ 1000000 by rw [List.length_drop]; omega)
      clear hd ht hv hb hK hM1
      generalize l.drop 2 = r0 at HLK HRL hE0
      go_enter Tryz.func121, Tryz.ntmps121
      go_wp2_with fail
      refine HLK.out.mono ?_
      rintro e w1 ⟨v1, rfl, hi1, hb1⟩
      have HI1 := Lib.hid hi1
      have HB1 := Lib.hid hb1
      clear hi1 hb1 HLK
      have hMi : ¬ (M : Int) < 2 := by omega
      go_wp2_with fail
      cases h1 : vtint r0 s with
      | none =>
        have hE := Lib.hid (hE0.out.trans (gbody_none h1))
        refine (takeInt_none s HI1.out HRL.out h1).mono ?_
        rintro e w2 ⟨v2, rfl, hb2⟩
        clear h1
        go_wp2
        go_ret3
        rw [hE.out]
        exact RetIO.nil _ (below_then HB1.out hb2)
      | some p =>
      obtain ⟨x, r1⟩ := p
      have HX := Lib.hid (vtint_bd h1)
      have H1 := Lib.hid h1
      refine (takeInt_some s HI1.out HRL.out h1).mono ?_
      rintro e w2 ⟨v2, rfl, ho2, hb2⟩
      have HO2 := Lib.hid ho2
      have HB2 := Lib.hid (below_then HB1.out hb2)
      have HRL1 := Lib.hid (show r1.length ≤ 1000000 from Nat.le_trans HX.out.2 HRL.out)
      clear h1 ho2 hb2
      go_wp2_with fail
      cases h2 : vtint r1 true with
      | none =>
        have hE := Lib.hid (hE0.out.trans (gbody_none2 H1.out h2))
        refine (takeInt_none true HO2.out.isB HRL1.out h2).mono ?_
        rintro e w3 ⟨v3, rfl, hb3⟩
        clear h2
        go_wp2
        go_ret3
        rw [hE.out]
        exact RetIO.nil _ (below_then HB2.out hb3)
      | some p =>
      obtain ⟨d, r2⟩ := p
      have HD := Lib.hid (vtint_bd h2)
      have H2 := Lib.hid h2
      refine (takeInt_some true HO2.out.isB HRL1.out h2).mono ?_
      rintro e w3 ⟨v3, rfl, ho3, hb3⟩
      have HO3 := Lib.hid (OwnB.base HB2.out.size ho3)
      have HB3 := Lib.hid (below_then HB2.out hb3)
      have HT3 := Lib.hid (HT.out.below HB3.out HT.out.lt)
      have HRL2 := Lib.hid (show r2.length ≤ 1000000 from Nat.le_trans HD.out.2 HRL1.out)
      clear h2 ho3 hb3
      go_wp2_with fail
      obtain ⟨u0, f, ok, hg⟩ : ∃ u0 f ok, gdiff 0 d = (u0, f, ok) := ⟨_, _, _, rfl⟩
      cases ok with
      | false =>
        have hE := Lib.hid (hE0.out.trans ((gbody_some H1.out H2.out hg).trans (if_neg (by decide))))
        refine (unpack_bad v3 (C : Int) (M : Int) d w3 HD.out.1 (by rw [hg])).mono ?_
        rintro e w4 ⟨rfl, hb4⟩
        clear hg
        go_wp2
        go_ret3
        rw [hE.out]
        exact RetIO.nil _ (below_then HB3.out hb4)
      | true =>
      have hE1 := Lib.hid (hE0.out.trans ((gbody_some H1.out H2.out hg).trans ((if_pos rfl).trans (gmore_up hM2))))
      have hu0 : u0 < 2 ^ 64 := by have h := gdiff_lt64 0 d; rw [hg] at h; exact h
      have HUP := Lib.hid (dunpack_is r2 v3 C M d u0 f w w3 HT3.out HO3.out HB3.out.size HRL2.out hC hM2 hM HD.out.1 hg)
      refine HUP.out.mono ?_
      cases hup : gup r2 C M u0 with
      | none =>
        rintro e w4 ⟨rfl, hb4⟩
        have hE := Lib.hid (show gtakeE l s = ([], [], 2) by rw [hE1.out, hup]; rfl)
        clear hg hup hu0
        go_wp2
        go_ret3
        rw [hE.out]
        exact RetIO.nil _ (below_then HB3.out hb4)
      | some p =>
      obtain ⟨us, q⟩ := p
      rintro e w4 ⟨v4, v5, rfl, hd4, ho4, hb4⟩
      have hbd := gup_bd hup hM2 hM hu0
      have HE2 := Lib.hid (show gtakeE l s = gend s f x us q by rw [hE1.out, hup]; rfl)
      have HNM := Lib.hid (numbers_any s f x us v4 w4 hd4 HX.out.1 hbd.2 hbd.1)
      have HO4 := Lib.hid ho4
      have HB4 := Lib.hid (below_then HB3.out hb4)
      clear hg hup hu0 hbd hd4 ho4 hb4
      go_wp2_with fail
      refine HNM.out.mono ?_
      unfold gend at HE2
      cases hw : gwalk s f x us with
      | none =>
        rintro e w5 ⟨rfl, hb5⟩
        have hE := HE2
        rw [hw] at hE
        clear hw
        go_wp2
        go_ret3
        rw [hE.out]
        exact RetIO.nil _ (below_then HB4.out hb5)
      | some ys =>
        rintro e w5 ⟨v6, rfl, hi5, hb5⟩
        have hE := HE2
        rw [hw] at hE
        have HI5 := Lib.hid hi5
        have HO5 := Lib.hid (HO4.out.below hb5)
        have HB5 := Lib.hid (below_then HB4.out hb5)
        clear hw hi5 hb5
        go_wp2
        go_ret3
        rw [hE.out]
        exact ⟨_, _, rfl, HI5.out, HO5.out, HB5.out⟩
    · have hE := Lib.hid (gtakeE_head (l := l) (s := s) (.inr (by rw [hd]; dsimp only; omega)))
      rw [hd] at HLK
      dsimp only at HLK
      clear hd ht hv hb
      by_cases hk3 : K = 3
      · subst hk3
        have hMi : (M : Int) < 2 := by omega
        clear hk
        go_enter Tryz.func121, Tryz.ntmps121
        go_wp2_with fail
        refine HLK.out.mono ?_
        rintro e w1 ⟨v1, rfl, _, hb1⟩
        go_wp2
        go_ret3
        rw [hE.out]
        exact RetIO.nil _ hb1
      · have d1 : ((K : Int) != 3) = true := by simp; omega
        clear hk
        go_enter Tryz.func121, Tryz.ntmps121
        go_wp2_with fail
        refine HLK.out.mono ?_
        rintro e w1 ⟨v1, rfl, _, hb1⟩
        go_wp2
        go_ret3
        rw [hE.out]
        exact RetIO.nil _ hb1
end Go.Proofs.YtlibofmpnlfelaaGreatDoor

/- Numbers of which a few are great (layer 10), as plain mathematics. -/



namespace Go.Proofs.YtlibofmpnlfelaaGreatDoor

/-- The least one. -/
def pbase (l : List Int) : Int := l.foldl min (l.headD 0)
theorem foldl_min_le : ∀ (l : List Int) (n : Int), l.foldl min n ≤ n ∧ ∀ x ∈ l, l.foldl min n ≤ x
  | [], n => ⟨Int.le_refl _, fun _ h => by cases h⟩
  | y :: l, n => by
    have h := foldl_min_le l (min n y)
    rw [List.foldl_cons]
    refine ⟨by omega, fun x hx => ?_⟩
    rcases List.mem_cons.1 hx with rfl | hx
    · omega
    · exact h.2 x hx
theorem foldl_min_mem : ∀ (l : List Int) (n : Int), l.foldl min n = n ∨ l.foldl min n ∈ l
  | [], n => .inl rfl
  | y :: l, n => by
    rw [List.foldl_cons]
    rcases foldl_min_mem l (min n y) with h | h
    · by_cases hn : n ≤ y
      · left; omega
      · right; rw [h, show min n y = y by omega]; exact List.mem_cons_self
    · exact .inr (List.mem_cons_of_mem _ h)
theorem pbase_le {l : List Int} {x : Int} (h : x ∈ l) : pbase l ≤ x := (foldl_min_le l _).2 x h
theorem pbase_mem {l : List Int} (h : 1 ≤ l.length) : pbase l ∈ l := by
  unfold pbase
  rcases foldl_min_mem l (l.headD 0) with h2 | h2
  · rw [h2]
    cases l with
    | nil => simp at h
    | cons a t => exact List.mem_cons_self
  · exact h2
def pone (base x : Int) : Option Nat := if (gdiff base x).2.2 = true then some (gdiff base x).1 else none
def pups (l : List Int) : Option (List Nat) := omap (pone (pbase l)) l
theorem pone_step {base x : Int} {u : Nat} (hx : inInt x) (hle : base ≤ x) (h : pone base x = some u) : gstep base u false = (x, true) ∧ (u : Int) < 9223372036854775808 := by
  unfold pone at h
  split at h
  · rename_i hk
    injection h with h
    subst h
    have h1 := gstep_gdiff (a := base) hx hk
    have h2 : (gdiff base x).2.1 = false := by
      rcases gdiff_cases base x with ⟨k, _⟩ | ⟨k1, _, _⟩ | ⟨_, _, k⟩
      · rw [k]
      · omega
      · rw [k]
    rw [h2] at h1
    exact ⟨h1, gdiff_lt base x⟩
  · cases h
theorem pups_len {l : List Int} {us : List Nat} (h : pups l = some us) : us.length = l.length := omap_len h
theorem pups_lt {l : List Int} {us : List Nat} (hl : ∀ x ∈ l, inInt x) (h : pups l = some us) : ∀ u ∈ us, (u : Int) < 9223372036854775808 := by
  intro u hu
  obtain ⟨x, hx, hu⟩ := omap_mem h hu
  exact (pone_step (hl x hx) (pbase_le hx) hu).2
/-- Pairs of a gap and a patch, of the first k numbers; and where the last one stands that is patched. -/
def pst (w : Nat) (us : List Nat) : Nat → List (Nat × Nat) × Nat
  | 0 => ([], 0)
  | k + 1 =>
    if us.getD k 0 / 2 ^ w = 0 then pst w us k
    else ((pst w us k).1 ++ (List.replicate ((k - (pst w us k).2 - 1) / 255) (255, 0) ++ [(k - (pst w us k).2 - 255 * ((k - (pst w us k).2 - 1) / 255), us.getD k 0 / 2 ^ w)]), k)
theorem pst_skip {w : Nat} {us : List Nat} {k : Nat} (h : us.getD k 0 / 2 ^ w = 0) : pst w us (k + 1) = pst w us k := by rw [pst, if_pos h]
theorem pst_more {w : Nat} {us : List Nat} {k : Nat} (h : us.getD k 0 / 2 ^ w ≠ 0) : pst w us (k + 1) = ((pst w us k).1 ++ (List.replicate ((k - (pst w us k).2 - 1) / 255) (255, 0) ++ [(k - (pst w us k).2 - 255 * ((k - (pst w us k).2 - 1) / 255), us.getD k 0 / 2 ^ w)]), k) := by rw [pst, if_neg h]
theorem pst_last (w : Nat) (us : List Nat) : ∀ k, (pst w us k).2 ≤ k
  | 0 => Nat.le_refl _
  | k + 1 => by
    have := pst_last w us k
    by_cases h : us.getD k 0 / 2 ^ w = 0
    · rw [pst_skip h]; omega
    · rw [pst_more h]; exact Nat.le_succ k
theorem pst_gap (w : Nat) (us : List Nat) : ∀ k, ∀ q ∈ (pst w us k).1, q.1 ≤ 255 ∧ (q.2 = 0 ∨ ∃ i, i < k ∧ q.2 = us.getD i 0 / 2 ^ w)
  | 0 => fun q hq => by cases hq
  | k + 1 => by
    intro q hq
    have ih := pst_gap w us k
    by_cases h : us.getD k 0 / 2 ^ w = 0
    · rw [pst_skip h] at hq
      obtain ⟨h1, h2⟩ := ih q hq
      exact ⟨h1, h2.imp id fun ⟨i, hi, h3⟩ => ⟨i, by omega, h3⟩⟩
    · rw [pst_more h] at hq
      simp only [List.mem_append, List.mem_replicate, List.mem_singleton] at hq
      rcases hq with hq | ⟨_, hq⟩ | hq
      · obtain ⟨h1, h2⟩ := ih q hq
        exact ⟨h1, h2.imp id fun ⟨i, hi, h3⟩ => ⟨i, by omega, h3⟩⟩
      · subst hq; exact ⟨Nat.le_refl _, .inl rfl⟩
      · subst hq; exact ⟨by dsimp only; omega, .inr ⟨k, by omega, rfl⟩⟩
def ppairs (w : Nat) (us : List Nat) : List (Nat × Nat) := (pst w us us.length).1
/-- The gap's width, and the patch's. -/
def pgw (ps : List (Nat × Nat)) : Nat := max 1 (wmost (ps.map (·.1)))
def ppw (ps : List (Nat × Nat)) : Nat := (wclosest (max 1 (wmost (ps.map (·.2))) : Nat)).toNat
def pcode (w : Nat) : Nat := (wcode (w : Int)).toNat
theorem wclose_all : ∀ n : Fin 65, 1 ≤ wclosest (n.val : Int) ∧ wclosest (n.val : Int) ≤ 64 ∧ (n.val : Int) ≤ wclosest (n.val : Int) ∧ 0 ≤ wcode (wclosest (n.val : Int)) ∧ wcode (wclosest (n.val : Int)) ≤ 31 ∧ wof (wcode (wclosest (n.val : Int))) = wclosest (n.val : Int) := by decide +kernel
theorem pclose {n : Nat} (h : n ≤ 64) : 1 ≤ (wclosest (n : Int)).toNat ∧ (wclosest (n : Int)).toNat ≤ 64 ∧ n ≤ (wclosest (n : Int)).toNat ∧ pcode (wclosest (n : Int)).toNat ≤ 31 ∧ wof (pcode (wclosest (n : Int)).toNat : Int) = ((wclosest (n : Int)).toNat : Int) ∧ wclosest (n : Int) = ((wclosest (n : Int)).toNat : Int) ∧ wcode ((wclosest (n : Int)).toNat : Int) = (pcode (wclosest (n : Int)).toNat : Int) := by
  have h1 := wclose_all ⟨n, by omega⟩
  dsimp only at h1
  have e : wclosest (n : Int) = ((wclosest (n : Int)).toNat : Int) := by omega
  have e2 : wcode ((wclosest (n : Int)).toNat : Int) = (pcode (wclosest (n : Int)).toNat : Int) := by unfold pcode; rw [← e]; omega
  refine ⟨by omega, by omega, by omega, ?_, ?_, e, e2⟩
  · rw [← e] at e2; omega
  · rw [← e2, ← e]; exact h1.2.2.2.2.2
theorem ppw_ok {w : Nat} {us : List Nat} (hu : ∀ u ∈ us, u < 2 ^ 64) : wmost ((ppairs w us).map (·.2)) ≤ 64 ∧ wmost ((ppairs w us).map (·.1)) ≤ 8 ∧ (∀ q ∈ ppairs w us, q.1 ≤ 255 ∧ q.2 < 2 ^ 64) := by
  have hq : ∀ q ∈ ppairs w us, q.1 ≤ 255 ∧ q.2 < 2 ^ 64 := by
    intro q hq
    obtain ⟨h1, h2⟩ := pst_gap w us us.length q hq
    refine ⟨h1, ?_⟩
    rcases h2 with h2 | ⟨i, hi, h2⟩
    · rw [h2]; exact Nat.two_pow_pos _
    · rw [h2, List.getD_eq_getElem?_getD, List.getElem?_eq_getElem hi]
      exact Nat.lt_of_le_of_lt (Nat.div_le_self _ _) (hu _ (List.getElem_mem hi))
  refine ⟨wmost_64 fun x hx => ?_, ?_, hq⟩
  · obtain ⟨q, hm, rfl⟩ := List.mem_map.1 hx
    exact (hq q hm).2
  · have h64 : ∀ x ∈ (ppairs w us).map (·.1), x < 2 ^ 64 := fun x hx => by
      obtain ⟨q, hm, rfl⟩ := List.mem_map.1 hx
      exact Nat.lt_of_le_of_lt (hq q hm).1 (by decide)
    rw [← wtop_bits h64]
    refine wbits_le (by omega) ?_
    have : ∀ (l : List Nat) (n : Nat), n ≤ 255 → (∀ x ∈ l, x ≤ 255) → l.foldl (fun n x => max n x) n ≤ 255 := by
      intro l
      induction l with
      | nil => intro n hn _; exact hn
      | cons y l ih => intro n hn h; rw [List.foldl_cons]; exact ih _ (by have := h y List.mem_cons_self; omega) fun x hx => h x (List.mem_cons_of_mem _ hx)
    have h2 := this ((ppairs w us).map (·.1)) 0 (by omega) fun x hx => by
      obtain ⟨q, hm, rfl⟩ := List.mem_map.1 hx
      exact (hq q hm).1
    unfold wtop
    show _ < 256
    omega
/-- A base as bytes. -/
def psize (base : Int) : Nat := (gdiff 0 base).1
def pn (base : Int) : Nat := wbits (psize base) / 8 + 1
def pbased (base : Int) : List UInt8 := be (pn base) (psize base + if base < 0 then 2 ^ (8 * pn base - 1) else 0)
def plow (us : List Nat) (w : Nat) : List Nat := us.map (· % 2 ^ w)
def pboth (ps : List (Nat × Nat)) (p : Nat) : List Nat := ps.map fun q => q.1 * 2 ^ p + q.2
def pheadb (base : Int) (ps : List (Nat × Nat)) : List UInt8 := [UInt8.ofNat (32 * (pn base - 1) + pcode (ppw ps)), UInt8.ofNat (32 * (pgw ps - 1) + ps.length)]
def play (base : Int) (us : List Nat) (w : Nat) : List UInt8 :=
  dheadN 2 (pcode w) us.length ++ pheadb base (ppairs w us) ++ pbased base ++ bpack (plow us w) w ++ bpack (pboth (ppairs w us) (ppw (ppairs w us))) (wclosest ((pgw (ppairs w us) + ppw (ppairs w us) : Nat) : Int)).toNat
/-- What Put answers. -/
def pputE (l : List Int) (W : Int) (s : Bool) : List UInt8 × Int :=
  if dplain l s = none ∨ l.length < 1 ∨ 512 < l.length ∨ wcode W < 0 ∨ 64 ≤ W then ([], 1)
  else match pups l with
    | none => ([], 1)
    | some us =>
      if pbase l = -9223372036854775808 ∨ 31 < (ppairs W.toNat us).length ∨ 64 < pgw (ppairs W.toNat us) + ppw (ppairs W.toNat us) ∨ 64 < W.toNat + ppw (ppairs W.toNat us) then ([], 1)
      else (play (pbase l) us W.toNat, 0)
/-- One pair is laid upon the numbers. -/
def pstep (w g p m : Nat) (st : Nat × List Nat) (v : Nat) : Option (Nat × List Nat) :=
  if v / 2 ^ p < 2 ^ g ∧ st.1 + v / 2 ^ p < m ∧ (wbits (v % 2 ^ p) + w ≤ 63 ∨ v % 2 ^ p = 0) then
    some (st.1 + v / 2 ^ p, st.2.set (st.1 + v / 2 ^ p) (st.2.getD (st.1 + v / 2 ^ p) 0 ^^^ (v % 2 ^ p * 2 ^ w)))
  else none
def pall (w g p m : Nat) : Nat × List Nat → List Nat → Option (Nat × List Nat)
  | st, [] => some st
  | st, v :: vs => match pstep w g p m st v with | none => none | some st' => pall w g p m st' vs
theorem pall_append (w g p m : Nat) (st : Nat × List Nat) (a b : List Nat) : pall w g p m st (a ++ b) = match pall w g p m st a with | none => none | some st' => pall w g p m st' b := by
  induction a generalizing st with
  | nil => rfl
  | cons v vs ih =>
    rw [List.cons_append, pall, pall]
    cases pstep w g p m st v with
    | none => rfl
    | some st' => exact ih st'
theorem pall_snoc (w g p m : Nat) (st : Nat × List Nat) (a : List Nat) (v : Nat) : pall w g p m st (a ++ [v]) = match pall w g p m st a with | none => none | some st' => pstep w g p m st' v := by
  rw [pall_append]
  cases pall w g p m st a with
  | none => rfl
  | some st' =>
    dsimp only
    rw [pall]
    cases pstep w g p m st' v with
    | none => rfl
    | some _ => rfl
/-- What Take answers. -/
def pend (s : Bool) (base : Int) (w g p m : Nat) (low both : List Nat) (q : List UInt8) : List Int × List UInt8 × Int :=
  match pall w g p m (0, low) both with
  | none => gbad
  | some st => match omap (gnext s false base) st.2 with | none => gbad | some xs => (xs, q, 0)
def pbits (s : Bool) (base : Int) (c m : Int) (g p some_ : Nat) (r : List UInt8) : List Int × List UInt8 × Int :=
  match unpacksAny r m (wof c) with
  | (low, r3, e) => if e ≠ 0 then gbad else match unpacksAny r3 some_ (wclosest ((g + p : Nat) : Int)) with
    | (both, r4, e) => if e ≠ 0 then gbad else pend s base (wof c).toNat g p m.toNat low both r4
/-- The base that bytes are. -/
def pmade (x : List UInt8) : Int := if 2 ^ (8 * x.length - 1) ≤ bval x then -((bval x % 2 ^ (8 * x.length - 1) : Nat) : Int) else ((bval x % 2 ^ (8 * x.length - 1) : Nat) : Int)
def pbody (s : Bool) (c m : Int) (r : List UInt8) : List Int × List UInt8 × Int :=
  if r.length < 2 then gbad
  else if 64 < (r.getD 1 0).toNat / 32 + 1 + (wof ((r.getD 0 0).toNat % 32 : Nat)).toNat ∨ r.length - 2 < (r.getD 0 0).toNat / 32 + 1 then gbad
  else pbits s (pmade ((r.drop 2).take ((r.getD 0 0).toNat / 32 + 1))) c m ((r.getD 1 0).toNat / 32 + 1) (wof ((r.getD 0 0).toNat % 32 : Nat)).toNat ((r.getD 1 0).toNat % 32) ((r.drop 2).drop ((r.getD 0 0).toNat / 32 + 1))
def ptakeE (l : List UInt8) (s : Bool) : List Int × List UInt8 × Int :=
  if (dlook l).2.2.2.2 ≠ 0 ∨ (dlook l).1 ≠ 2 then gbad else pbody s (dlook l).2.1 (dlook l).2.2.1 (dlook l).2.2.2.1

/-- The bits below a place, and those above: together. -/
theorem xor_join (w a b : Nat) (ha : a < 2 ^ w) : a ^^^ (b * 2 ^ w) = a + b * 2 ^ w := by
  refine Nat.eq_of_testBit_eq fun i => ?_
  rw [Nat.testBit_xor, Nat.mul_comm b, Nat.add_comm a, Nat.testBit_two_pow_mul_add b ha]
  by_cases h : i < w
  · rw [if_pos h, Nat.testBit_two_pow_mul, decide_eq_false (by omega : ¬ w ≤ i)]
    simp
  · rw [if_neg h, Nat.testBit_two_pow_mul, decide_eq_true (by omega : w ≤ i)]
    have h2 : a.testBit i = false := Nat.testBit_lt_two_pow (Nat.lt_of_lt_of_le ha (Nat.pow_le_pow_right (by omega) (by omega)))
    rw [h2]
    simp
theorem patch_back (u w : Nat) : (u % 2 ^ w) ^^^ (u / 2 ^ w * 2 ^ w) = u := by
  rw [xor_join w _ _ (Nat.mod_lt _ (Nat.two_pow_pos w)), Nat.mul_comm]
  have := Nat.div_add_mod u (2 ^ w)
  omega
theorem pstep_of {w g p m : Nat} {st : Nat × List Nat} {gap patch : Nat} (hp : patch < 2 ^ p) (hg : gap < 2 ^ g) (hm : st.1 + gap < m) (hb : wbits patch + w ≤ 63 ∨ patch = 0) :
    pstep w g p m st (gap * 2 ^ p + patch) = some (st.1 + gap, st.2.set (st.1 + gap) (st.2.getD (st.1 + gap) 0 ^^^ (patch * 2 ^ w))) := by
  have e1 : (gap * 2 ^ p + patch) / 2 ^ p = gap := by rw [Nat.mul_comm, Nat.mul_add_div (Nat.two_pow_pos p), Nat.div_eq_of_lt hp, Nat.add_zero]
  have e2 : (gap * 2 ^ p + patch) % 2 ^ p = patch := by rw [Nat.mul_comm, Nat.mul_add_mod, Nat.mod_eq_of_lt hp]
  unfold pstep
  rw [e1, e2, if_pos ⟨hg, hm, hb⟩]
theorem set_same {low : List Nat} {k : Nat} : low.set k (low.getD k 0) = low := by
  by_cases h : k < low.length
  · rw [List.getD_eq_getElem?_getD, List.getElem?_eq_getElem h, Option.getD_some]; exact List.set_getElem_self h
  · exact List.set_eq_of_length_le (by omega)
/-- Pairs of the gap 255 and the patch 0 go on and change nothing. -/
theorem pall_fill {w g p m : Nat} (hg : 255 < 2 ^ g) : ∀ (j at_ : Nat) (low : List Nat), at_ + 255 * j < m → pall w g p m (at_, low) (pboth (List.replicate j (255, 0)) p) = some (at_ + 255 * j, low)
  | 0, at_, low, _ => by simp [pboth, pall]
  | j + 1, at_, low, h => by
    have hm : (at_, low).1 + 255 < m := Nat.lt_of_le_of_lt (Nat.add_le_add_left (by omega : 255 ≤ 255 * (j + 1)) at_) h
    have h1 := pstep_of (w := w) (p := p) (patch := 0) (Nat.two_pow_pos p) hg hm (.inr rfl)
    have h2 := pall_fill (w := w) (p := p) hg j (at_ + 255) low (by omega : at_ + 255 + 255 * j < m)
    rw [Nat.zero_mul, Nat.xor_zero, set_same] at h1
    dsimp only at h1
    unfold pboth at h2 ⊢
    rw [List.replicate_succ, List.map_cons, pall, h1]
    dsimp only
    rw [h2]
    congr 2
    omega
/-- What is patched of the first k numbers makes these again. -/
theorem pall_st {w g p : Nat} {us : List Nat} (hu : ∀ u ∈ us, (u : Int) < 9223372036854775808) (hw : w ≤ 63) : ∀ k, k ≤ us.length → (∀ q ∈ (pst w us k).1, q.1 < 2 ^ g ∧ q.2 < 2 ^ p) →
    pall w g p us.length (0, plow us w) (pboth (pst w us k).1 p) = some ((pst w us k).2, us.take k ++ (plow us w).drop k)
  | 0, _, _ => by simp [pst, pboth, pall]
  | k + 1, hk, h => by
    have hll : (plow us w).length = us.length := by simp [plow]
    have hkl : k < (plow us w).length := by omega
    have hd : (plow us w).drop k = (us[k] % 2 ^ w) :: (plow us w).drop (k + 1) := by rw [List.drop_eq_getElem_cons hkl]; simp [plow]
    have hgd : us.getD k 0 = us[k] := by rw [List.getD_eq_getElem?_getD, List.getElem?_eq_getElem (by omega)]; rfl
    by_cases h0 : us.getD k 0 / 2 ^ w = 0
    · rw [pst_skip h0] at h ⊢
      rw [pall_st hu hw k (by omega) h, hd, List.take_succ_eq_append_getElem (by omega), List.append_assoc]
      rw [hgd] at h0
      have : us[k] % 2 ^ w = us[k] := by have := Nat.div_add_mod us[k] (2 ^ w); rw [h0] at this; omega
      rw [this]
      rfl
    · rw [pst_more h0] at h ⊢
      have hlast := pst_last w us k
      obtain ⟨last, hl⟩ : ∃ last, last = (pst w us k).2 := ⟨_, rfl⟩
      obtain ⟨j, hj⟩ : ∃ j, j = (k - last - 1) / 255 := ⟨_, rfl⟩
      rw [← hl, ← hj] at h ⊢
      rw [← hl] at hlast
      have hih := pall_st hu hw k (by omega) fun q hq => h q (List.mem_append_left _ hq)
      have hone := h (k - last - 255 * j, us.getD k 0 / 2 ^ w) (List.mem_append_right _ (List.mem_append_right _ (List.mem_singleton.2 rfl)))
      rw [pboth, List.map_append, List.map_append, pall_append, ← pboth, hih]
      dsimp only
      rw [← hl, pall_append, ← pboth]
      have hfill : pall w g p us.length (last, us.take k ++ (plow us w).drop k) (pboth (List.replicate j (255, 0)) p) = some (last + 255 * j, us.take k ++ (plow us w).drop k) := by
        by_cases hj0 : j = 0
        · subst hj0; rfl
        · have h255 : 255 < 2 ^ g := (h (255, 0) (List.mem_append_right _ (List.mem_append_left _ (List.mem_replicate.2 ⟨hj0, rfl⟩)))).1
          exact pall_fill h255 j last _ (by omega)
      rw [hfill]
      dsimp only
      rw [List.map_cons, List.map_nil, pall]
      have hb : wbits (us.getD k 0 / 2 ^ w) + w ≤ 63 := by
        have h1 : us.getD k 0 / 2 ^ w < 2 ^ (63 - w) := by
          rw [Nat.div_lt_iff_lt_mul (Nat.two_pow_pos w), ← Nat.pow_add, show 63 - w + w = 63 by omega, hgd]
          have := hu us[k] (List.getElem_mem _)
          show us[k] < 9223372036854775808
          omega
        have := wbits_le (by omega) h1
        omega
      rw [pstep_of hone.2 hone.1 (by dsimp only; omega) (.inl hb)]
      dsimp only
      rw [show last + 255 * j + (k - last - 255 * j) = k by omega, pall]
      congr 2
      have htl : (us.take k).length = k := by rw [List.length_take]; omega
      rw [hd, List.getD_eq_getElem?_getD, List.getElem?_append_right (by omega), htl, Nat.sub_self, List.getElem?_cons_zero, Option.getD_some, hgd, patch_back, List.set_append_right _ _ (by omega), htl, Nat.sub_self, List.set_cons_zero, List.take_succ_eq_append_getElem (by omega), List.append_assoc]
      rfl
theorem wcode_back {x : Int} (h : 0 ≤ wcode x) : wof (wcode x) = x ∧ wcode x ≤ 31 := by
  refine ⟨?_, (wcode_bd x).2⟩
  unfold wcode at h ⊢
  cases hf : (List.range 32).find? fun i => wat i == x with
  | none => rw [hf] at h; dsimp only at h; omega
  | some i =>
    dsimp only
    have h1 := List.find?_some hf
    have h2 := List.mem_range.1 (List.mem_of_find?_eq_some hf)
    rw [wof_in h2]
    simpa using h1
theorem pcode_back {w : Nat} (h : 0 ≤ wcode (w : Int)) : wof (pcode w : Int) = (w : Int) ∧ pcode w ≤ 31 ∧ wcode (w : Int) = (pcode w : Int) := by
  have h1 := wcode_back h
  have e : wcode (w : Int) = (pcode w : Int) := by unfold pcode; omega
  rw [e] at h1
  exact ⟨h1.1, by omega, e⟩
theorem psize_base {base : Int} (h : inInt base) (h2 : base ≠ -9223372036854775808) : (psize base : Int) = (if base < 0 then -base else base) ∧ (psize base : Int) < 9223372036854775808 := by
  unfold inInt at h
  unfold psize
  rcases gdiff_cases 0 base with ⟨_, k⟩ | ⟨k1, k2, k⟩ | ⟨k1, k2, k⟩
  · omega
  · rw [k, if_pos k1]; dsimp only; omega
  · rw [k, if_neg (by omega)]; dsimp only; omega
theorem pn_bd {base : Int} (h : (psize base : Int) < 9223372036854775808) : 1 ≤ pn base ∧ pn base ≤ 8 ∧ psize base < 2 ^ (8 * pn base - 1) := by
  have h1 : psize base < 2 ^ 63 := by show psize base < 9223372036854775808; omega
  have h2 := wbits_le (by omega) h1
  have h3 := wbits_lt (x := psize base) (Nat.lt_trans h1 (by decide))
  unfold pn
  refine ⟨by omega, by omega, Nat.lt_of_lt_of_le h3 (Nat.pow_le_pow_right (by omega) (by omega))⟩
theorem pbased_len (base : Int) : (pbased base).length = pn base := be_len _ _
theorem pbased_bval {base : Int} (h : (psize base : Int) < 9223372036854775808) : bval (pbased base) = psize base + if base < 0 then 2 ^ (8 * pn base - 1) else 0 := by
  obtain ⟨h1, _, h3⟩ := pn_bd h
  unfold pbased
  rw [bval_be, Nat.mod_eq_of_lt]
  rw [p256, show 8 * pn base = (8 * pn base - 1) + 1 by omega, Nat.pow_succ, Nat.add_sub_cancel]
  split <;> omega
theorem pmade_back {base : Int} (h : inInt base) (h2 : base ≠ -9223372036854775808) : pmade (pbased base) = base := by
  obtain ⟨hs, hlt⟩ := psize_base h h2
  obtain ⟨_, _, h3⟩ := pn_bd hlt
  unfold pmade
  rw [pbased_len, pbased_bval hlt]
  generalize 2 ^ (8 * pn base - 1) = P at *
  by_cases hb : base < 0
  · rw [if_pos hb] at hs ⊢
    rw [if_pos (by omega), Nat.add_mod_right, Nat.mod_eq_of_lt h3]
    omega
  · rw [if_neg hb] at hs ⊢
    rw [if_neg (by omega), Nat.add_zero, Nat.mod_eq_of_lt h3]
    omega
theorem wtop_bound {l : List Nat} (h : ∀ x ∈ l, x < 2 ^ 64) {x : Nat} (hx : x ∈ l) : x < 2 ^ wmost l := by
  have h1 := (wbits_iff (wtop_lt h) (wmost_64 h)).1 (by rw [wtop_bits h]; exact Nat.le_refl _)
  exact Nat.lt_of_le_of_lt (wtop_mem hx) h1
/-- What is known of the pairs of numbers. -/
theorem ppairs_ok {w : Nat} {us : List Nat} (hu : ∀ u ∈ us, u < 2 ^ 64) :
    1 ≤ pgw (ppairs w us) ∧ pgw (ppairs w us) ≤ 8 ∧ 1 ≤ ppw (ppairs w us) ∧ ppw (ppairs w us) ≤ 64 ∧ wclosest ((max 1 (wmost ((ppairs w us).map (·.2))) : Nat) : Int) = (ppw (ppairs w us) : Int) ∧ wcode (ppw (ppairs w us) : Int) = (pcode (ppw (ppairs w us)) : Int) ∧ pcode (ppw (ppairs w us)) ≤ 31 ∧ wof (pcode (ppw (ppairs w us)) : Int) = (ppw (ppairs w us) : Int) ∧
    ∀ q ∈ ppairs w us, q.1 < 2 ^ pgw (ppairs w us) ∧ q.2 < 2 ^ ppw (ppairs w us) := by
  obtain ⟨h1, h2, h3⟩ := ppw_ok (w := w) hu
  obtain ⟨c1, c2, c3, c4, c5, c6, c7⟩ := pclose (n := max 1 (wmost ((ppairs w us).map (·.2)))) (by omega)
  have hg : pgw (ppairs w us) = max 1 (wmost ((ppairs w us).map (·.1))) := rfl
  refine ⟨by omega, by omega, c1, c2, c6, c7, c4, c5, fun q hq => ⟨?_, ?_⟩⟩
  · have := wtop_bound (l := (ppairs w us).map (·.1)) (fun x hx => by
      obtain ⟨q, hm, rfl⟩ := List.mem_map.1 hx
      exact Nat.lt_of_le_of_lt (h3 q hm).1 (by decide)) (List.mem_map_of_mem hq)
    exact Nat.lt_of_lt_of_le this (Nat.pow_le_pow_right (by omega) (by omega))
  · have := wtop_bound (l := (ppairs w us).map (·.2)) (fun x hx => by
      obtain ⟨q, hm, rfl⟩ := List.mem_map.1 hx
      exact (h3 q hm).2) (List.mem_map_of_mem hq)
    refine Nat.lt_of_lt_of_le this (Nat.pow_le_pow_right (by omega) ?_)
    show _ ≤ (wclosest ((max 1 (wmost ((ppairs w us).map (·.2))) : Nat) : Int)).toNat
    omega
theorem pboth_lt {ps : List (Nat × Nat)} {g p : Nat} (h : ∀ q ∈ ps, q.1 < 2 ^ g ∧ q.2 < 2 ^ p) : ∀ x ∈ pboth ps p, x < 2 ^ (g + p) := by
  intro x hx
  obtain ⟨q, hq, rfl⟩ := List.mem_map.1 hx
  obtain ⟨h1, h2⟩ := h q hq
  have : (q.1 + 1) * 2 ^ p ≤ 2 ^ g * 2 ^ p := Nat.mul_le_mul_right _ h1
  rw [Nat.pow_add]
  rw [Nat.add_mul] at this
  omega
theorem byte_low {n : Nat} (h : n < 256) : (UInt8.ofNat n).toNat = n := by simp only [UInt8.toNat_ofNat', Nat.reducePow]; exact Nat.mod_eq_of_lt h
/-- P10.3. -/
theorem ptake_back {l : List Int} {s : Bool} {us : List Nat} {w : Nat} (hl : ∀ x ∈ l, inInt x ∧ (s = true ∨ 0 ≤ x)) (h1 : 1 ≤ l.length) (h5 : l.length ≤ 512) (hc : 0 ≤ wcode (w : Int)) (hw : w < 64) (hu : pups l = some us)
    (hb : pbase l ≠ -9223372036854775808) (h31 : (ppairs w us).length ≤ 31) (hgp : pgw (ppairs w us) + ppw (ppairs w us) ≤ 64) (b : List UInt8) : ptakeE (play (pbase l) us w ++ b) s = (l, b, 0) := by
  have hbi : inInt (pbase l) := (hl _ (pbase_mem h1)).1
  obtain ⟨hs, hlt⟩ := psize_base hbi hb
  obtain ⟨n1, n8, _⟩ := pn_bd hlt
  have hu63 := pups_lt (fun x hx => (hl x hx).1) hu
  have hu64 : ∀ u ∈ us, u < 2 ^ 64 := fun u h => by have := hu63 u h; show u < 18446744073709551616; omega
  obtain ⟨g1, g8, p1, p64, _, _, pc, pw, hq⟩ := ppairs_ok (w := w) hu64
  obtain ⟨cw, c31, _⟩ := pcode_back hc
  have hul := pups_len hu
  obtain ⟨W2, hW2⟩ : ∃ W2, W2 = (wclosest ((pgw (ppairs w us) + ppw (ppairs w us) : Nat) : Int)).toNat := ⟨_, rfl⟩
  obtain ⟨_, d2, d3, _, _, d6, _⟩ := pclose hgp
  rw [← hW2] at d2 d3 d6
  have hbl := pboth_lt hq
  have hbl2 : ∀ x ∈ pboth (ppairs w us) (ppw (ppairs w us)), x < 2 ^ W2 := fun x hx => Nat.lt_of_lt_of_le (hbl x hx) (Nat.pow_le_pow_right (by omega) d3)
  have hst := pall_st (w := w) (g := pgw (ppairs w us)) (p := ppw (ppairs w us)) hu63 (by omega) us.length (Nat.le_refl _) hq
  have hpe : pboth (pst w us us.length).1 (ppw (ppairs w us)) = pboth (ppairs w us) (ppw (ppairs w us)) := rfl
  rw [hpe, List.take_of_length_le (Nat.le_refl _), List.drop_eq_nil_of_le (by simp [plow]), List.append_nil] at hst
  have hback : omap (gnext s false (pbase l)) us = some l := omap_back (fun x hx u h => by
    have h2 := pone_step (hl x hx).1 (pbase_le hx) h
    unfold gnext
    rw [h2.1]
    exact if_pos ⟨rfl, (hl x hx).2⟩) hu
  have hll : (plow us w).length = us.length := by simp [plow]
  have hpl : (pboth (ppairs w us) (ppw (ppairs w us))).length = (ppairs w us).length := by simp [pboth]
  generalize hps : ppairs w us = ps at *
  generalize hpp : ppw ps = p at *
  generalize hgg : pgw ps = g at *
  have e0 : (UInt8.ofNat (32 * (pn (pbase l) - 1) + pcode p)).toNat = 32 * (pn (pbase l) - 1) + pcode p := byte_low (by omega)
  have e1 : (UInt8.ofNat (32 * (g - 1) + ps.length)).toNat = 32 * (g - 1) + ps.length := byte_low (by omega)
  have hlook : dlook (play (pbase l) us w ++ b) = (2, (pcode w : Int), (us.length : Int), UInt8.ofNat (32 * (pn (pbase l) - 1) + pcode p) :: UInt8.ofNat (32 * (g - 1) + ps.length) :: (pbased (pbase l) ++ (bpack (plow us w) w ++ (bpack (pboth ps p) W2 ++ b))), 0) := by
    unfold play pheadb
    rw [hps, hpp, hgg, ← hW2]
    simp only [List.append_assoc, List.cons_append, List.nil_append]
    exact dlook_head (k := 2) (by omega) c31 (by omega) (by omega) _
  unfold ptakeE
  rw [hlook]
  dsimp only
  rw [if_neg (by omega)]
  unfold pbody
  simp only [List.getD_cons_zero, List.getD_cons_succ, List.drop_succ_cons, List.drop_zero, List.length_cons, List.length_append, e0, e1, pbased_len]
  rw [if_neg (by omega), show (32 * (pn (pbase l) - 1) + pcode p) % 32 = pcode p by omega, pw, Int.toNat_natCast, show (32 * (pn (pbase l) - 1) + pcode p) / 32 + 1 = pn (pbase l) by omega, show (32 * (g - 1) + ps.length) / 32 + 1 = g by omega, show (32 * (g - 1) + ps.length) % 32 = ps.length by omega,
    if_neg (by omega), List.take_left' (pbased_len _), List.drop_left' (pbased_len _), pmade_back hbi hb]
  unfold pbits
  rw [cw, unpacksAny_in _ _ _ (by omega) (by omega), ← hll, unpacks_back (fun x hx => by
    obtain ⟨u, _, rfl⟩ := List.mem_map.1 hx
    exact Nat.mod_lt _ (Nat.two_pow_pos w))]
  dsimp only
  rw [if_neg (by decide), d6, unpacksAny_in _ _ _ (by omega) d2, ← hpl, unpacks_back hbl2]
  dsimp only
  rw [if_neg (by decide), hll]
  unfold pend
  rw [Int.toNat_natCast, Int.toNat_natCast, hst]
  dsimp only
  rw [hback]
end Go.Proofs.YtlibofmpnlfelaaGreatDoor
