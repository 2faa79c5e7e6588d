
/- nulls' own contracts: slices.Repeat at truths (XURep's text at another type; and no times). -/

import Derived.Test.YtffglnccpbbclaaWMake

import Derived.Test.YtffglnccpbbclaaMulS

namespace Go.Proofs.Ytffglnccpbbclaa

open Go.RowKit

def nbc (x : Bool) : List Value := [Value.bool x]
theorem nbc_len (x : Bool) : (nbc x).length = 1 := rfl
theorem nbc_one (x : Bool) : ∀ u ∈ nbc x, u.oneCell' = true := by
  intro u hu
  unfold nbc at hu
  simp at hu
  subst hu
  rfl
theorem nbcs_one (l : List Bool) : ∀ u ∈ l.flatMap nbc, u.oneCell' = true := by
  intro u hu
  obtain ⟨x, _, hx⟩ := List.mem_flatMap.1 hu
  exact nbc_one x u hx
theorem nbflat_len (l : List Bool) : (l.flatMap nbc).length = l.length * 1 := flat_len nbc_len l
theorem nbcs_map (l : List Bool) : l.flatMap nbc = l.map Value.bool := by
  induction l with
  | nil => rfl
  | cons x l ih => rw [List.flatMap_cons, ih]; rfl
theorem Try.infoNBW : (Try.prog.info? 4).map (fun i => (i.zero, i.size, i.bytes)) = some (some (Value.bool false), 1, 1) := by kernel_rfl
theorem elemNBW : ElemW Try.prog 23 4 1 1 (Value.bool false) := by
  obtain ⟨i0, hi, hz0, hz1, hz2⟩ := info_parts Try.infoNBW
  exact ⟨Try.underlying23, rfl, by omega, i0, hi, hz0, hz1, hz2⟩
def nreps (k : Nat) (d : Bool) : List Value := (List.replicate k d).flatMap nbc
theorem nreps_len (k : Nat) (d : Bool) : (nreps k d).length = k * 1 := by unfold nreps; rw [nbflat_len, List.length_replicate]
theorem nreps_add (k j : Nat) (d : Bool) : nreps (k + j) d = nreps k d ++ nreps j d := by unfold nreps; rw [← List.flatMap_append, List.replicate_append_replicate]
theorem nreps_one (k : Nat) (d : Bool) : ∀ u ∈ nreps k d, u.oneCell' = true := nbcs_one _
theorem nreps_take {k j : Nat} (d : Bool) (h : j ≤ k) (r : List Value) : (nreps k d ++ r).take (j * 1) = nreps j d := by
  obtain ⟨i, rfl⟩ : ∃ i, k = j + i := ⟨k - j, by omega⟩
  rw [nreps_add, List.append_assoc, List.take_append_of_le_length (by rw [nreps_len]; exact Nat.le_refl _), List.take_of_length_le (by rw [nreps_len]; exact Nat.le_refl _)]
/-- A copy of what stands in front behind it. -/
theorem nreps_splice {k j i e : Nat} (d : Bool) (r : List Value) (hk : k ≤ i) (_hj : j ≤ i) (he : i * 1 + e = k * 1 + j * 1) :
    (nreps i d ++ r).take (k * 1) ++ nreps j d ++ (nreps i d ++ r).drop (k * 1 + (nreps j d).length) = nreps (k + j) d ++ r.drop e := by
  rw [nreps_take d hk r, ← nreps_add, nreps_len, List.drop_append, nreps_len, List.drop_of_length_le (by rw [nreps_len]; omega), List.nil_append, show k * 1 + j * 1 - i * 1 = e by omega]
theorem nrow_cells {w : World} {g : Nat} {t : TypeId} {cs : List Value} (h : Row w g t cs) : ∀ j v, cs[j]? = some v → w.cell? ((⟨g, 0, none⟩ : Addr).add j) = some v := by
  intro j v hj
  have h1 := h.cell j
  rw [hj] at h1
  rw [← h1]
  congr 1
  unfold Addr.add
  split <;> simp_all
def NRpRel (d : Bool) (g m : Nat) (w : World) (n : Value) (wr : World) : Prop := ∃ (k : Nat) (rest : List Value), 1 ≤ k ∧ k ≤ m ∧ n = .int .i64 (k : Int) ∧ rest.length = (m - k) * 1 ∧ Row wr g 4 (nreps k d ++ rest) ∧ Below w.heap.size w wr
theorem nslice_from {w : World} {g k m : Nat} (h : k < m) : (Instr.sliceAt 23 (.slice (some ⟨g, 0, none⟩) m m) (some (.int .i64 (k : Int))) none none).run Try.prog w = .ok (.slice (some ⟨g, k * 1, none⟩) (m - k) (m - k)) w := by
  have ht := elemNBW.under
  have he : Try.prog.elem 23 = 4 := by simp [Program.elem, ht]
  rw [run_sliceAt_slice w _ _ _ _ _ (by rw [he]; exact ht), run_slice_l w _ _ m m (by rw [he]; exact ht) .i64 (k : Int) (by omega) (by omega), he, elemNBW.size_]
  have hne : ¬ m = k := by omega
  simp [sliced, Addr.add, hne]
  intro h; omega
theorem nslice_upto {w : World} {g k m : Nat} (h : k ≤ m) : (Instr.sliceAt 23 (.slice (some ⟨g, 0, none⟩) m m) none (some (.int .i64 (k : Int))) none).run Try.prog w = .ok (.slice (some ⟨g, 0, none⟩) k m) w := by
  have ht := elemNBW.under
  have he : Try.prog.elem 23 = 4 := by simp [Program.elem, ht]
  rw [run_sliceAt_slice w _ _ _ _ _ (by rw [he]; exact ht), run_slice_h w _ _ m m (by rw [he]; exact ht) .i64 (k : Int) (by omega) (by omega), he, elemNBW.size_]
  simp [sliced, Addr.add]
set_option maxHeartbeats 4000000 in
set_option maxRecDepth 100000 in
theorem nrepeat_any (d : Bool) (g1 c m : Nat) (w : World) (hr : Row w g1 4 (nbc d)) (h1 : 1 ≤ m) (hm : m ≤ 100000) :
    Calls Try.prog 27 #[.slice (some ⟨g1, 0, none⟩) 1 c, .int .i64 (m : Int)] w
      fun e w' => ∃ g, e = .returned (.slice (some ⟨g, 0, none⟩) m m) ∧ w.heap.size ≤ g ∧ Row w' g 4 (nreps m d) ∧ Below w.heap.size w w' := by
  have HM := Lib.hid (Try.bits_Mul 1 m (by omega) (by omega) w)
  rw [Nat.one_mul, Nat.div_eq_of_lt (by omega), Nat.mod_eq_of_lt (by omega)] at HM
  have HR := Lib.hid hr
  have hmi : IntKind.u64.wrap (m : Int) = (m : Int) := by rw [IntKind.wrap_u64]; omega
  have hmj : IntKind.i64.wrap (m : Int) = (m : Int) := by rw [IntKind.wrap_i64]; omega
  have hm1 : 1 ≤ m := h1
  have hc1 : decide ((9223372036854775807 : Int) < (m : Int)) = false := decide_eq_false (by omega)
  go_enter Try.func27, Try.ntmps27
  go_wp2_with (first | (go_at_call 37; refine HM.out.mono ?_; rintro e w' ⟨rfl, hw'⟩; rw [hw']) | (refine wpList_makeW elemNBW (nbc false) rfl rfl _ _ rfl _ _ _ _ m w w.heap.size rfl rfl rfl rfl (by omega) (by omega) (Below.refl _ _) (Nat.le_refl _) ?_))
  intro w2 hr2 hb2
  have HR2 := Lib.hid (HR.out.below hb2 HR.out.lt)
  have HNEW := Lib.hid (show ((List.replicate m (nbc false)).flatten).take 0 ++ nbc d ++ ((List.replicate m (nbc false)).flatten).drop (0 + (nbc d).length) = nreps 1 d ++ ((List.replicate m (nbc false)).flatten).drop 1 by
    rw [List.take_zero, List.nil_append, Nat.zero_add, nbc_len]; rfl)
  have hlen : ((List.replicate m (nbc false)).flatten).length = m * 1 := by rw [← flat_replicate (f := nbc) m false, nbflat_len, List.length_replicate]
  have HLEN := Lib.hid hlen
  clear hlen hr h1
  go_wp2_with (refine wpList_copyW elemNBW rfl _ _ rfl w.heap.size 0 m m ⟨g1, 0, none⟩ 1 c _ (nbc d) _ HNEW.out 1 w.heap.size w rfl rfl hr2 (Nat.min_eq_left (by omega)) rfl (nrow_cells HR2.out) (nbc_one d) (by rw [HLEN.out, nbc_len]; omega) hb2 (Nat.le_refl _) ?_)
  intro w3 hr3 hb3
  have HS := Lib.hid (show NRpRel d w.heap.size m w (.int .i64 1) w3 from ⟨1, _, Nat.le_refl _, by omega, rfl, by simp only [List.length_tail, HLEN.out]; omega, hr3, hb3⟩)
  clear hr2 hb2 hr3 hb3
  go_wp2
  go_loopw [8] (NRpRel d w.heap.size m w) (fun i _ => m - (intOf i).toNat)
  case atStart => exact HS.out
  case round =>
    obtain ⟨k, rest, hk1, hkm, rfl, hrl, hrow, hbw⟩ := hrel
    have HRL := Lib.hid hrl
    have HROW := Lib.hid hrow
    have HB := Lib.hid hbw
    clear hrl hrow hbw
    by_cases hlt : k < m
    · have hlti : (k : Int) < (m : Int) := by omega
      obtain ⟨j, hj⟩ : ∃ j, j = min k (m - k) := ⟨_, rfl⟩
      have hj1 : 1 ≤ j := by omega
      have hjk : j ≤ k := by omega
      have hjm : k + j ≤ m := by omega
      have HJ := Lib.hid hj
      clear hj
      obtain ⟨cur, hcur⟩ : ∃ cur, cur = nreps k d ++ rest := ⟨_, rfl⟩
      obtain ⟨new, hnew⟩ : ∃ new, new = nreps (k + j) d ++ rest.drop (j * 1) := ⟨_, rfl⟩
      rw [← hcur] at HROW
      have HSC := Lib.hid (show cur.take (k * 1) ++ nreps j d ++ cur.drop (k * 1 + (nreps j d).length) = new by rw [hcur, hnew]; exact nreps_splice d rest (Nat.le_refl _) hjk rfl)
      have HSN := Lib.hid (show new.take (k * 1) ++ nreps j d ++ new.drop (k * 1 + (nreps j d).length) = new by
        rw [hnew, nreps_splice (e := 0) d (rest.drop (j * 1)) (by omega) (by omega) (by omega), List.drop_zero])
      have HTC := Lib.hid (show cur.take (j * 1) = nreps j d by rw [hcur, nreps_take d hjk])
      have HTN := Lib.hid (show new.take (j * 1) = nreps j d by rw [hnew, nreps_take d (by omega)])
      have HLC := Lib.hid (show cur.length = m * 1 by rw [hcur, List.length_append, nreps_len, HRL.out]; omega)
      have HLN := Lib.hid (show new.length = m * 1 by rw [hnew, List.length_append, nreps_len, List.length_drop, HRL.out]; omega)
      have HNEW2 := Lib.hid hnew
      clear hcur hnew
      go_wp2
      refine wp_region_listR (turn_later w.heap.size w.heap.size 4 cur new) [.is (.int .i64 (k : Int)), .is (.slice (some ⟨w.heap.size, 0, none⟩) m m), .is (.int .i64 (k : Int)), .is (.slice (some ⟨w.heap.size, k * 1, none⟩) (m - k) (m - k)), .is (.slice (some ⟨w.heap.size, 0, none⟩) m m), .is (.int .i64 (k : Int)), .is (.slice (some ⟨w.heap.size, 0, none⟩) k m),
        .of (fun v W => v = .int .i64 (j : Int) ∧ Row W w.heap.size 4 new) (fun v W W' h hk => ⟨h.1, hk.2.2 h.2⟩), .is (.int .i64 ((k : Int) + (j : Int))), .is (.int .i64 ((k : Int) + (j : Int)))]
        [some 38, some 39, some 40, some 41, some 42, some 43, some 44, some 45, some 46, some 8] (by kernel_rfl) (by kernel_rfl) (by kernel_rfl) (by kernel_rfl) rfl ⟨?_, ?_, ?_, ?_, ?_, ?_, ?_, ?_, ?_, ?_, trivial⟩ ?_
      · intro ρ vs W1 hb1 H
        exact gives_move rfl (H.old 8 _ (by kernel_rfl) rfl) ⟨upd_at _ _ _, (turn_later _ _ _ _ _).refl _⟩
      · intro ρ vs W1 hb1 H
        exact gives_move rfl (H.old 7 _ (by kernel_rfl) rfl) ⟨upd_at _ _ _, (turn_later _ _ _ _ _).refl _⟩
      · intro ρ vs W1 hb1 H
        exact gives_move rfl (H.old 8 _ (by kernel_rfl) rfl) ⟨upd_at _ _ _, (turn_later _ _ _ _ _).refl _⟩
      · intro ρ vs W1 hb1 H
        have e1 : ρ (.tmp 40) = .int .i64 (k : Int) := H.holds 40 2 (by kernel_rfl)
        exact gives_slice rfl (H.holds 39 1 (by kernel_rfl)) (by simp only [Option.map_some]; rw [e1]) rfl rfl (nslice_from hlt) ⟨upd_at _ _ _, (turn_later _ _ _ _ _).refl _⟩
      · intro ρ vs W1 hb1 H
        exact gives_move rfl (H.old 7 _ (by kernel_rfl) rfl) ⟨upd_at _ _ _, (turn_later _ _ _ _ _).refl _⟩
      · intro ρ vs W1 hb1 H
        exact gives_move rfl (H.old 8 _ (by kernel_rfl) rfl) ⟨upd_at _ _ _, (turn_later _ _ _ _ _).refl _⟩
      · intro ρ vs W1 hb1 H
        have e1 : ρ (.tmp 43) = .int .i64 (k : Int) := H.holds 43 5 (by kernel_rfl)
        exact gives_slice rfl (H.holds 42 4 (by kernel_rfl)) rfl (by simp only [Option.map_some]; rw [e1]) rfl (nslice_upto hkm) ⟨upd_at _ _ _, (turn_later _ _ _ _ _).refl _⟩
      · intro ρ vs W1 hb1 H
        have hsrc : ∀ (l : List Value), l.take (j * 1) = nreps j d → Row W1 w.heap.size 4 l → ∀ i v, (nreps j d)[i]? = some v → W1.cell? ((⟨w.heap.size, 0, none⟩ : Addr).add i) = some v := by
          intro l hl hr i v hi
          refine nrow_cells hr i v ?_
          rw [← hl, List.getElem?_take] at hi
          split at hi
          · exact hi
          · cases hi
        have hto : ∀ (l : List Value), Row W1 w.heap.size 4 l → Turn w.heap.size w.heap.size 4 cur new W1 (W1.setRow w.heap.size new.toArray) := fun l hr =>
          ⟨below_setRow (Below.refl _ _) (Nat.le_refl _) _, fun _ => .inr (rowAll_set hr), fun _ => rowAll_set hr⟩
        rcases hb1.2.1 HROW.out with h | h
        · refine gives_copyW elemNBW rfl (H.holds 41 3 (by kernel_rfl)) (H.holds 44 6 (by kernel_rfl)) h (k := j) HJ.out.symm (nreps_len j d) (hsrc cur HTC.out h) (nreps_one j d) (by rw [HLC.out, nreps_len]; omega) ?_
          rw [HSC.out]
          exact ⟨⟨upd_at _ _ _, rowAll_set h⟩, hto _ h⟩
        · refine gives_copyW elemNBW rfl (H.holds 41 3 (by kernel_rfl)) (H.holds 44 6 (by kernel_rfl)) h (k := j) HJ.out.symm (nreps_len j d) (hsrc new HTN.out h) (nreps_one j d) (by rw [HLN.out, nreps_len]; omega) ?_
          rw [HSN.out]
          exact ⟨⟨upd_at _ _ _, rowAll_set h⟩, hto _ h⟩
      · intro ρ vs W1 hb1 H
        have e1 : ρ (.tmp 45) = .int .i64 (j : Int) := (H.holds 45 7 (by kernel_rfl)).1
        exact gives_add rfl (H.holds 38 0 (by kernel_rfl)) e1 (by omega) (by omega) ⟨upd_at _ _ _, (turn_later _ _ _ _ _).refl _⟩
      · intro ρ vs W1 hb1 H
        exact gives_assign rfl (H.holds 46 8 (by kernel_rfl)) ⟨upd_at _ _ _, (turn_later _ _ _ _ _).refl _⟩
      · intro vs W1 hb1 hfs
        have f7 : Row W1 w.heap.size 4 new := (hfs 7 (by decide)).2
        have f9 : vs 9 = .int .i64 ((k : Int) + (j : Int)) := hfs 9 (by decide)
        clear hfs
        simp only [putAll, Nat.zero_add, Nat.reduceAdd]
        generalize vs 0 = z0
        generalize vs 1 = z1
        generalize vs 2 = z2
        generalize vs 3 = z3
        generalize vs 4 = z4
        generalize vs 5 = z5
        generalize vs 6 = z6
        generalize vs 7 = z7
        generalize vs 8 = z8
        simp only [f9, Act.put, List.setIfInBounds_toArray, List.set_cons_succ, List.set_cons_zero]
        have HREL := Lib.hid (show NRpRel d w.heap.size m w (.int .i64 ((k : Int) + (j : Int))) W1 from ⟨k + j, rest.drop (j * 1), by omega, hjm, by congr 1, by rw [List.length_drop, HRL.out]; omega, by rw [← HNEW2.out]; exact f7, HB.out.trans hb1.1⟩)
        clear f7 f9 hb1
        go_wp2
        go_roundw
        case rel => exact HREL.out
        case measure => simp [intOf]; omega
    · obtain rfl : k = m := by omega
      obtain rfl : rest = [] := List.eq_nil_of_length_eq_zero (by rw [HRL.out]; omega)
      have HR9 := HROW
      rw [List.append_nil] at HR9
      go_wp2
      go_ret
      exact ⟨_, rfl, Nat.le_refl _, HR9.out, HB.out⟩
set_option maxHeartbeats 4000000 in
set_option maxRecDepth 100000 in
/-- No times. -/
theorem nrepeat_none (d : Bool) (g1 c : Nat) (w : World) (hr : Row w g1 4 (nbc d)) :
    Calls Try.prog 27 #[.slice (some ⟨g1, 0, none⟩) 1 c, .int .i64 0] w
      fun e w' => ∃ g, e = .returned (.slice (some ⟨g, 0, none⟩) 0 0) ∧ Below w.heap.size w w' := by
  have HM := Lib.hid (Try.bits_Mul 1 0 (by omega) (by omega) w)
  rw [Nat.one_mul, Nat.div_eq_of_lt (by omega), Nat.mod_eq_of_lt (by omega)] at HM
  have HR := Lib.hid hr
  go_enter Try.func27, Try.ntmps27
  go_wp2_with (first | (go_at_call 37; refine HM.out.mono ?_; rintro e w' ⟨rfl, hw'⟩; rw [hw']) | (refine wpList_makeW elemNBW (nbc false) rfl rfl _ _ rfl _ _ _ _ 0 w w.heap.size rfl rfl rfl rfl (by omega) (by omega) (Below.refl _ _) (Nat.le_refl _) ?_))
  intro w2 hr2 hb2
  have HR2 := Lib.hid (HR.out.below hb2 HR.out.lt)
  clear hr
  go_wp2_with (refine wpList_copyW elemNBW rfl _ _ rfl w.heap.size 0 0 0 ⟨g1, 0, none⟩ 1 c _ [] [] rfl 0 w.heap.size w rfl rfl hr2 rfl rfl (fun j v h => by simp at h) (fun u h => by simp at h) (by simp) hb2 (Nat.le_refl _) ?_)
  intro w3 hr3 hb3
  have HB := Lib.hid hb3
  clear hr2 hb2 hr3 hb3
  go_wp2
  go_loopw [8] (fun (n : Value) (wr : World) => n = .int .i64 0 ∧ wr = w3) (fun _ _ => 0)
  case atStart => exact ⟨rfl, rfl⟩
  case round =>
    obtain ⟨rfl, rfl⟩ := hrel
    go_wp2
    go_ret
    exact ⟨_, rfl, HB.out⟩
end Go.Proofs.Ytffglnccpbbclaa
