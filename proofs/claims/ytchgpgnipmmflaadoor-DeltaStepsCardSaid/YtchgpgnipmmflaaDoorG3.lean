/- Texts that the claims of this seat share, part 3: TRep BRPack BRUnp DRPut VIs TRPut TRTake ERTake Mask DOwn TNum DIs TUnp TPack TGlue TPutO TIs TShown Law Door. -/
import Derived.Test.YtchgpgnipmmflaaDoorRows
import Derived.Test.YtchgpgnipmmflaaDoorTie
import Derived.Test.YtchgpgnipmmflaaDoorCards
import Derived.SevenTiedAt
import Derived.Stop.Joined
import Derived.Test.YtchgpgnipmmflaaDoorG2
/- delta's own contracts: slices.Repeat at differences. -/





namespace Go.Proofs.YtchgpgnipmmflaaDoor

open Go.RowKit

def reps (k : Nat) (d : Nat × Bool) : List Value := (List.replicate k d).flatMap dc
theorem reps_len (k : Nat) (d : Nat × Bool) : (reps k d).length = k * 2 := by unfold reps; rw [dflat_len, List.length_replicate]
theorem reps_add (k j : Nat) (d : Nat × Bool) : reps (k + j) d = reps k d ++ reps j d := by unfold reps; rw [← List.flatMap_append, List.replicate_append_replicate]
theorem reps_one (k : Nat) (d : Nat × Bool) : ∀ u ∈ reps k d, u.oneCell' = true := dcs_one _
theorem reps_take {k j : Nat} (d : Nat × Bool) (h : j ≤ k) (r : List Value) : (reps k d ++ r).take (j * 2) = reps j d := by
  obtain ⟨i, rfl⟩ : ∃ i, k = j + i := ⟨k - j, by omega⟩
  rw [reps_add, List.append_assoc, List.take_append_of_le_length (by rw [reps_len]; exact Nat.le_refl _), List.take_of_length_le (by rw [reps_len]; exact Nat.le_refl _)]
/-- A copy of what stands in front behind it. -/
theorem reps_splice {k j i e : Nat} (d : Nat × Bool) (r : List Value) (hk : k ≤ i) (_hj : j ≤ i) (he : i * 2 + e = k * 2 + j * 2) :
    (reps i d ++ r).take (k * 2) ++ reps j d ++ (reps i d ++ r).drop (k * 2 + (reps j d).length) = reps (k + j) d ++ r.drop e := by
  rw [reps_take d hk r, ← reps_add, reps_len, List.drop_append, reps_len, List.drop_of_length_le (by rw [reps_len]; omega), List.nil_append, show k * 2 + j * 2 - i * 2 = e by omega]
theorem row_cells {w : World} {g : Nat} {t : TypeId} {cs : List Value} (h : Row w g t cs) : ∀ j v, cs[j]? = some v → w.cell? ((⟨g, 0, none⟩ : Addr).add j) = some v := by
  intro j v hj
  have h1 := h.cell j
  rw [hj] at h1
  rw [← h1]
  congr 1
  unfold Addr.add
  split <;> simp_all
def RpRel (d : Nat × Bool) (g m : Nat) (w : World) (n : Value) (wr : World) : Prop := ∃ (k : Nat) (rest : List Value), 1 ≤ k ∧ k ≤ m ∧ n = .int .i64 (k : Int) ∧ rest.length = (m - k) * 2 ∧ Row wr g 45 (reps k d ++ rest) ∧ Below w.heap.size w wr
theorem slice_from {w : World} {g k m : Nat} (h : k < m) : (Instr.sliceAt 51 (.slice (some ⟨g, 0, none⟩) m m) (some (.int .i64 (k : Int))) none none).run Tryd.prog w = .ok (.slice (some ⟨g, k * 2, none⟩) (m - k) (m - k)) w := by
  have ht := elemD.under
  have he : Tryd.prog.elem 51 = 45 := by simp [Program.elem, ht]
  rw [run_sliceAt_slice w _ _ _ _ _ (by rw [he]; exact ht), run_slice_l w _ _ m m (by rw [he]; exact ht) .i64 (k : Int) (by omega) (by omega), he, elemD.size_]
  have hne : ¬ m = k := by omega
  simp [sliced, Addr.add, hne]
  intro h; omega
theorem slice_upto {w : World} {g k m : Nat} (h : k ≤ m) : (Instr.sliceAt 51 (.slice (some ⟨g, 0, none⟩) m m) none (some (.int .i64 (k : Int))) none).run Tryd.prog w = .ok (.slice (some ⟨g, 0, none⟩) k m) w := by
  have ht := elemD.under
  have he : Tryd.prog.elem 51 = 45 := by simp [Program.elem, ht]
  rw [run_sliceAt_slice w _ _ _ _ _ (by rw [he]; exact ht), run_slice_h w _ _ m m (by rw [he]; exact ht) .i64 (k : Int) (by omega) (by omega), he, elemD.size_]
  simp [sliced, Addr.add]
set_option maxHeartbeats 4000000 in
set_option maxRecDepth 100000 in
theorem repeat_any (d : Nat × Bool) (g1 c m : Nat) (w : World) (hr : Row w g1 45 (dc d)) (h1 : 1 ≤ m) (hm : m ≤ 1000) :
    Calls Tryd.prog 62 #[.slice (some ⟨g1, 0, none⟩) 1 c, .int .i64 (m : Int)] w
      fun e w' => ∃ g, e = .returned (.slice (some ⟨g, 0, none⟩) m m) ∧ w.heap.size ≤ g ∧ Row w' g 45 (reps m d) ∧ Below w.heap.size w w' := by
  have HM := Lib.hid (Tryd.bits_Mul 1 m (by omega) (by omega) w)
  rw [Nat.one_mul, Nat.div_eq_of_lt (by omega), Nat.mod_eq_of_lt (by omega)] at HM
  have HR := Lib.hid hr
  have hmi : IntKind.u64.wrap (m : Int) = (m : Int) := by rw [IntKind.wrap_u64]; omega
  have hmj : IntKind.i64.wrap (m : Int) = (m : Int) := by rw [IntKind.wrap_i64]; omega
  have hm1 : 1 ≤ m := h1
  have hc1 : decide ((9223372036854775807 : Int) < (m : Int)) = false := decide_eq_false (by omega)
  go_enter Tryd.func62, Tryd.ntmps62
  go_wp2_with (first | (go_at_call 74; refine HM.out.mono ?_; rintro e w' ⟨rfl, hw'⟩; rw [hw']) | (refine wpList_makeW elemD (dc (0, false)) rfl rfl _ _ rfl _ _ _ _ m w w.heap.size rfl rfl rfl rfl (by omega) (by omega) (Below.refl _ _) (Nat.le_refl _) ?_))
  intro w2 hr2 hb2
  have HR2 := Lib.hid (HR.out.below hb2 HR.out.lt)
  have HNEW := Lib.hid (show ((List.replicate m (dc (0, false))).flatten).take 0 ++ dc d ++ ((List.replicate m (dc (0, false))).flatten).drop (0 + (dc d).length) = reps 1 d ++ ((List.replicate m (dc (0, false))).flatten).drop 2 by
    rw [List.take_zero, List.nil_append, Nat.zero_add, dc_len]; rfl)
  have hlen : ((List.replicate m (dc (0, false))).flatten).length = m * 2 := by rw [← flat_replicate (f := dc) m (0, false), dflat_len, List.length_replicate]
  have HLEN := Lib.hid hlen
  clear hlen hr h1
  go_wp2_with (refine wpList_copyW elemD rfl _ _ rfl w.heap.size 0 m m ⟨g1, 0, none⟩ 1 c _ (dc d) _ HNEW.out 1 w.heap.size w rfl rfl hr2 (Nat.min_eq_left (by omega)) rfl (row_cells HR2.out) (dc_one d) (by rw [HLEN.out, dc_len]; omega) hb2 (Nat.le_refl _) ?_)
  intro w3 hr3 hb3
  have HS := Lib.hid (show RpRel d w.heap.size m w (.int .i64 1) w3 from ⟨1, _, Nat.le_refl _, by omega, rfl, by rw [List.length_drop, HLEN.out]; omega, hr3, hb3⟩)
  clear hr2 hb2 hr3 hb3
  go_wp2
  go_loopw [8] (RpRel d w.heap.size m w) (fun i _ => m - (intOf i).toNat)
  case atStart => exact HS.out
  case round =>
    obtain ⟨k, rest, hk1, hkm, rfl, hrl, hrow, hbw⟩ := hrel
    have HRL := Lib.hid hrl
    have HROW := Lib.hid hrow
    have HB := Lib.hid hbw
    clear hrl hrow hbw
    by_cases hlt : k < m
    · have hlti : (k : Int) < (m : Int) := by omega
      obtain ⟨j, hj⟩ : ∃ j, j = min k (m - k) := ⟨_, rfl⟩
      have hj1 : 1 ≤ j := by omega
      have hjk : j ≤ k := by omega
      have hjm : k + j ≤ m := by omega
      have HJ := Lib.hid hj
      clear hj
      obtain ⟨cur, hcur⟩ : ∃ cur, cur = reps k d ++ rest := ⟨_, rfl⟩
      obtain ⟨new, hnew⟩ : ∃ new, new = reps (k + j) d ++ rest.drop (j * 2) := ⟨_, rfl⟩
      rw [← hcur] at HROW
      have HSC := Lib.hid (show cur.take (k * 2) ++ reps j d ++ cur.drop (k * 2 + (reps j d).length) = new by rw [hcur, hnew]; exact reps_splice d rest (Nat.le_refl _) hjk rfl)
      have HSN := Lib.hid (show new.take (k * 2) ++ reps j d ++ new.drop (k * 2 + (reps j d).length) = new by
        rw [hnew, reps_splice (e := 0) d (rest.drop (j * 2)) (by omega) (by omega) (by omega), List.drop_zero])
      have HTC := Lib.hid (show cur.take (j * 2) = reps j d by rw [hcur, reps_take d hjk])
      have HTN := Lib.hid (show new.take (j * 2) = reps j d by rw [hnew, reps_take d (by omega)])
      have HLC := Lib.hid (show cur.length = m * 2 by rw [hcur, List.length_append, reps_len, HRL.out]; omega)
      have HLN := Lib.hid (show new.length = m * 2 by rw [hnew, List.length_append, reps_len, List.length_drop, HRL.out]; omega)
      have HNEW2 := Lib.hid hnew
      clear hcur hnew
      go_wp2
      refine wp_region_listR (turn_later w.heap.size w.heap.size 45 cur new) [.is (.int .i64 (k : Int)), .is (.slice (some ⟨w.heap.size, 0, none⟩) m m), .is (.int .i64 (k : Int)), .is (.slice (some ⟨w.heap.size, k * 2, none⟩) (m - k) (m - k)), .is (.slice (some ⟨w.heap.size, 0, none⟩) m m), .is (.int .i64 (k : Int)), .is (.slice (some ⟨w.heap.size, 0, none⟩) k m),
        .of (fun v W => v = .int .i64 (j : Int) ∧ Row W w.heap.size 45 new) (fun v W W' h hk => ⟨h.1, hk.2.2 h.2⟩), .is (.int .i64 ((k : Int) + (j : Int))), .is (.int .i64 ((k : Int) + (j : Int)))]
        [some 38, some 39, some 40, some 41, some 42, some 43, some 44, some 45, some 46, some 8] (by kernel_rfl) (by kernel_rfl) (by kernel_rfl) (by kernel_rfl) rfl ⟨?_, ?_, ?_, ?_, ?_, ?_, ?_, ?_, ?_, ?_, trivial⟩ ?_
      · intro ρ vs W1 hb1 H
        exact gives_move rfl (H.old 8 _ (by kernel_rfl) rfl) ⟨upd_at _ _ _, (turn_later _ _ _ _ _).refl _⟩
      · intro ρ vs W1 hb1 H
        exact gives_move rfl (H.old 7 _ (by kernel_rfl) rfl) ⟨upd_at _ _ _, (turn_later _ _ _ _ _).refl _⟩
      · intro ρ vs W1 hb1 H
        exact gives_move rfl (H.old 8 _ (by kernel_rfl) rfl) ⟨upd_at _ _ _, (turn_later _ _ _ _ _).refl _⟩
      · intro ρ vs W1 hb1 H
        have e1 : ρ (.tmp 40) = .int .i64 (k : Int) := H.holds 40 2 (by kernel_rfl)
        exact gives_slice rfl (H.holds 39 1 (by kernel_rfl)) (by simp only [Option.map_some]; rw [e1]) rfl rfl (slice_from hlt) ⟨upd_at _ _ _, (turn_later _ _ _ _ _).refl _⟩
      · intro ρ vs W1 hb1 H
        exact gives_move rfl (H.old 7 _ (by kernel_rfl) rfl) ⟨upd_at _ _ _, (turn_later _ _ _ _ _).refl _⟩
      · intro ρ vs W1 hb1 H
        exact gives_move rfl (H.old 8 _ (by kernel_rfl) rfl) ⟨upd_at _ _ _, (turn_later _ _ _ _ _).refl _⟩
      · intro ρ vs W1 hb1 H
        have e1 : ρ (.tmp 43) = .int .i64 (k : Int) := H.holds 43 5 (by kernel_rfl)
        exact gives_slice rfl (H.holds 42 4 (by kernel_rfl)) rfl (by simp only [Option.map_some]; rw [e1]) rfl (slice_upto hkm) ⟨upd_at _ _ _, (turn_later _ _ _ _ _).refl _⟩
      · intro ρ vs W1 hb1 H
        have hsrc : ∀ (l : List Value), l.take (j * 2) = reps j d → Row W1 w.heap.size 45 l → ∀ i v, (reps j d)[i]? = some v → W1.cell? ((⟨w.heap.size, 0, none⟩ : Addr).add i) = some v := by
          intro l hl hr i v hi
          refine row_cells hr i v ?_
          rw [← hl, List.getElem?_take] at hi
          split at hi
          · exact hi
          · cases hi
        have hto : ∀ (l : List Value), Row W1 w.heap.size 45 l → Turn w.heap.size w.heap.size 45 cur new W1 (W1.setRow w.heap.size new.toArray) := fun l hr =>
          ⟨below_setRow (Below.refl _ _) (Nat.le_refl _) _, fun _ => .inr (rowAll_set hr), fun _ => rowAll_set hr⟩
        rcases hb1.2.1 HROW.out with h | h
        · refine gives_copyW elemD rfl (H.holds 41 3 (by kernel_rfl)) (H.holds 44 6 (by kernel_rfl)) h (k := j) HJ.out.symm (reps_len j d) (hsrc cur HTC.out h) (reps_one j d) (by rw [HLC.out, reps_len]; omega) ?_
          rw [HSC.out]
          exact ⟨⟨upd_at _ _ _, rowAll_set h⟩, hto _ h⟩
        · refine gives_copyW elemD rfl (H.holds 41 3 (by kernel_rfl)) (H.holds 44 6 (by kernel_rfl)) h (k := j) HJ.out.symm (reps_len j d) (hsrc new HTN.out h) (reps_one j d) (by rw [HLN.out, reps_len]; omega) ?_
          rw [HSN.out]
          exact ⟨⟨upd_at _ _ _, rowAll_set h⟩, hto _ h⟩
      · intro ρ vs W1 hb1 H
        have e1 : ρ (.tmp 45) = .int .i64 (j : Int) := (H.holds 45 7 (by kernel_rfl)).1
        exact gives_add rfl (H.holds 38 0 (by kernel_rfl)) e1 (by omega) (by omega) ⟨upd_at _ _ _, (turn_later _ _ _ _ _).refl _⟩
      · intro ρ vs W1 hb1 H
        exact gives_assign rfl (H.holds 46 8 (by kernel_rfl)) ⟨upd_at _ _ _, (turn_later _ _ _ _ _).refl _⟩
      · intro vs W1 hb1 hfs
        have f7 : Row W1 w.heap.size 45 new := (hfs 7 (by decide)).2
        have f9 : vs 9 = .int .i64 ((k : Int) + (j : Int)) := hfs 9 (by decide)
        clear hfs
        simp only [putAll, Nat.zero_add, Nat.reduceAdd]
        generalize vs 0 = z0
        generalize vs 1 = z1
        generalize vs 2 = z2
        generalize vs 3 = z3
        generalize vs 4 = z4
        generalize vs 5 = z5
        generalize vs 6 = z6
        generalize vs 7 = z7
        generalize vs 8 = z8
        simp only [f9, Act.put, List.setIfInBounds_toArray, List.set_cons_succ, List.set_cons_zero]
        have HREL := Lib.hid (show RpRel d w.heap.size m w (.int .i64 ((k : Int) + (j : Int))) W1 from ⟨k + j, rest.drop (j * 2), by omega, hjm, by congr 1, by rw [List.length_drop, HRL.out]; omega, by rw [← HNEW2.out]; exact f7, HB.out.trans hb1.1⟩)
        clear f7 f9 hb1
        go_wp2
        go_roundw
        case rel => exact HREL.out
        case measure => simp [intOf]; omega
    · obtain rfl : k = m := by omega
      obtain rfl : rest = [] := List.eq_nil_of_length_eq_zero (by rw [HRL.out]; omega)
      have HR9 := HROW
      rw [List.append_nil] at HR9
      go_wp2
      go_ret
      exact ⟨_, rfl, Nat.le_refl _, HR9.out, HB.out⟩
end Go.Proofs.YtchgpgnipmmflaaDoor

/- The contract of the reference's Pack. -/



namespace Go.Proofs.YtchgpgnipmmflaaDoor

open Go.RowKit

def RPackRel2 (g m t W V x : Nat) (w : World) (at_ k : Value) (wr : World) : Prop :=
  ∃ (j : Nat) (out : List UInt8), at_ = .int .i64 ((t + W - j : Nat) : Int) ∧ k = .int .i64 ((j : Int) - 1) ∧ j ≤ W ∧ out.length = m ∧ Row wr g 5 (out.map bv) ∧ bval out = (V * 2 ^ (W - j) + x / 2 ^ j) * 2 ^ (8 * m - (t + W - j)) ∧ Below w.heap.size w wr
def RPackRel (l : List Nat) (g m W : Nat) (w : World) (at_ i : Value) (wr : World) : Prop :=
  ∃ (k : Nat) (out : List UInt8), at_ = .int .i64 ((W * k : Nat) : Int) ∧ i = .int .i64 (k : Int) ∧ k ≤ l.length ∧ out.length = m ∧ Row wr g 5 (out.map bv) ∧ bval out = pval W (l.take k) * 2 ^ (8 * m - W * k) ∧ (∀ x ∈ l.take k, x < 2 ^ W) ∧ Below w.heap.size w wr
theorem bit_is (x K : Nat) (hx : x < 2 ^ 64) : bits .and .u64 ((x : Int) / 2 ^ K) 1 = ((x / 2 ^ K % 2 : Nat) : Int) := by
  have h := and_low x K 1 1 hx (by omega) rfl
  simpa using h
set_option maxHeartbeats 2000000 in
set_option maxRecDepth 100000 in
theorem rpack_own (A : Option Addr) (n c : Nat) (l : List Nat) (W : Nat) (w : World) (hn : l.length = n) (hn4 : n ≤ 4096) (hW : W ≤ 64) (hl : Lies w A (l.map uv)) (h64 : ∀ x ∈ l, x < 2 ^ 64) :
    Calls Tryd.prog 34 #[.slice A n c, .int .i64 (W : Int)] w (RetEO w (packs l W)) := by
  have HN := Lib.hid hn
  have H64 := Lib.hid h64
  clear hn h64
  obtain ⟨m, hm⟩ : ∃ m, m = bsize n W := ⟨_, rfl⟩
  have hmW : W * n ≤ 8 * m := by rw [hm]; exact bsize_le n W
  have hm4 : m ≤ 32768 := by have := prod_le hn4 hW; unfold bsize at hm; omega
  have hsz := fun w => rsize_in n W w hn4 hW
  rw [← hm] at hsz
  have HS := Lib.hid hsz
  have HM := Lib.hid hm
  have HMW := Lib.hid hmW
  clear hsz hm hmW
  have d1 : decide ((W : Int) < 0) = false := decide_eq_false (by omega)
  have d2 : decide ((64 : Int) < (W : Int)) = false := decide_eq_false (by omega)
  have d3 : decide ((4096 : Int) < (n : Int)) = false := decide_eq_false (by omega)
  go_enter Tryd.func34, Tryd.ntmps34
  go_wp2_with (first | (go_at_call 58; refine (HS.out _).mono ?_; rintro e w' ⟨rfl, rfl⟩) | (refine wpList_make elemB rfl _ _ rfl _ _ _ _ m w w.heap.size rfl rfl ?_ ?_ (by omega) (by omega) (Below.refl _ _) (Nat.le_refl _) ?_))
  · rfl
  · rfl
  intro w1 hr1 hb1
  have hr2 : Row w1 w.heap.size 5 ((List.replicate m (0 : UInt8)).map bv) := by simpa using hr1
  clear hr1
  go_wp2
  go_loopw [7, 8] (RPackRel l w.heap.size m W w) (fun _ i _ => n - (intOf i).toNat)
  case atStart => exact ⟨0, List.replicate m 0, rfl, rfl, by omega, by simp, hr2, by rw [bval_zeros]; simp [pval], by simp, hb1⟩
  case round =>
    obtain ⟨k, out, rfl, rfl, hk, hlen, hr, hval, hall, hb⟩ := hrel
    have HV := Lib.hid hval
    have HA := Lib.hid hall
    have HLen := Lib.hid hlen
    clear hval hall hr2 hb1 hlen
    have hk' : k ≤ n := by have := HN.out; omega
    by_cases hlt : k < n
    · have hkl : k < l.length := by have := HN.out; omega
      obtain ⟨ad, rfl, hadlt, hcell⟩ := hl.cell (k := k) (by simpa using hkl)
      obtain ⟨x, hx⟩ : ∃ x : Nat, x = l[k] := ⟨_, rfl⟩
      have hcx0 : w.cell? (ad.add k) = some (.int .u64 (x : Int)) := by rw [hcell, List.getElem_map, hx]; rfl
      have hcx : wr.cell? (ad.add k) = some (.int .u64 (x : Int)) := (hb.cell (by rw [add_block]; exact hadlt)).trans hcx0
      have hxm : x ∈ l := by rw [hx]; exact List.getElem_mem hkl
      have HX := Lib.hid hx
      clear hx hcell
      by_cases hx2 : x < 2 ^ W
      · have hz : (x : Int) / 2 ^ W = 0 := by
          have : ((x / 2 ^ W : Nat) : Int) = 0 := by rw [Nat.div_eq_of_lt hx2]; rfl
          simpa using this
        have hstep : W * k + W ≤ 8 * m := by
          have h1 : W * (k + 1) ≤ W * n := Nat.mul_le_mul_left _ hlt
          have := HMW.out
          rw [Nat.mul_add, Nat.mul_one] at h1
          omega
        have HX2 := Lib.hid hx2
        clear hx2
        obtain ⟨V, hV⟩ : ∃ V, V = pval W (l.take k) := ⟨_, rfl⟩
        obtain ⟨t, ht⟩ : ∃ t, t = W * k := ⟨_, rfl⟩
        rw [← ht] at hstep ⊢
        have HVV := Lib.hid hV
        have HTT := Lib.hid ht
        clear hV ht
        have hst : RPackRel2 w.heap.size m t W V x w (.int .i64 (t : Int)) (.int .i64 ((W : Int) - 1)) wr := by
          refine ⟨W, out, by rw [Nat.add_sub_cancel], rfl, Nat.le_refl _, HLen.out, hr, ?_, hb⟩
          rw [Nat.add_sub_cancel, Nat.sub_self, Nat.pow_zero, Nat.mul_one, Nat.div_eq_of_lt HX2.out, Nat.add_zero, HVV.out, HTT.out]
          exact HV.out
        rcases (show decide ((W : Int) < 64) = true ∨ decide ((W : Int) < 64) = false by cases decide ((W : Int) < 64) <;> simp) with hd64 | hd64
        all_goals
          go_wp2
          go_loopw [7, 9] (RPackRel2 w.heap.size m t W V x w) (fun _ k _ => (intOf k + 1).toNat)
          case atStart => exact hst
          case round =>
            obtain ⟨j, o, rfl, rfl, hj, hlen, hr, hval, hb⟩ := hrel
            obtain ⟨T, hT⟩ : ∃ T, T = t + W - j := ⟨_, rfl⟩
            rw [← hT] at hval ⊢
            have HT := Lib.hid hT
            have HVal := Lib.hid hval
            have HLe := Lib.hid hlen
            clear hT hval hlen
            have hcx2 : wr.cell? (ad.add k) = some (.int .u64 (x : Int)) := (hb.cell (by rw [add_block]; exact hadlt)).trans hcx0
            by_cases hj0 : 0 < j
            · obtain ⟨K, rfl⟩ : ∃ K, j = K + 1 := ⟨j - 1, by omega⟩
              rw [show ((K + 1 : Nat) : Int) - 1 = (K : Int) by omega]
              have hT8 : T + 1 ≤ 8 * m := by have := HT.out; omega
              obtain ⟨β, hβ⟩ : ∃ β, β = x / 2 ^ K % 2 := ⟨_, rfl⟩
              have hbit := bit_is x K (H64.out x hxm)
              rw [← hβ] at hbit
              have HBe := Lib.hid hβ
              rcases (show β = 0 ∨ β = 1 by omega) with rfl | rfl
              · clear hβ
                go_wp2
                go_roundw
                case rel =>
                  have hT2 : T + 1 = t + W - K := by have := HT.out; omega
                  refine ⟨K, o, by rw [← hT2]; go_num, rfl, by omega, HLe.out, hr, ?_, hb⟩
                  have h1 := piece_step V x W (K + 1) 1 hj (by omega)
                  rw [Nat.add_sub_cancel, Nat.pow_one, ← HBe.out] at h1
                  rw [HVal.out, step_zero _ m T hT8, ← hT2, Nat.pow_one, h1]
                case measure => simp [intOf]
              · clear hβ
                go_wp2
                refine wp_region_tail 13 (by kernel_rfl) (by kernel_rfl) ?_
                have hr2 : Row wr.drew w.heap.size 5 (o.map bv) := hr
                have hb2 : Below w.heap.size w wr.drew := hb.drew
                clear hr hb hcx2
                generalize wr.drew = w2 at *
                obtain ⟨q, hq⟩ : ∃ q, q = T / 8 := ⟨_, rfl⟩
                obtain ⟨e, he⟩ : ∃ e, e = T % 8 := ⟨_, rfl⟩
                obtain ⟨r, hr'⟩ : ∃ r, r = 8 - T % 8 := ⟨_, rfl⟩
                obtain ⟨d, hd⟩ : ∃ d, d = r - 1 := ⟨_, rfl⟩
                obtain ⟨hqo, hl1, hl2, hl3, hl4⟩ := laid_at (n := 1) (piece := 1) hq hr' hd HLe.out (by omega) (by omega) hT8 (by omega) HVal.out
                have hqi : (T : Int) / 8 = (q : Int) := by omega
                have hei : (T : Int) % 8 = (e : Int) := by omega
                have hwq : IntKind.i64.wrap (q : Int) = (q : Int) := by rw [IntKind.wrap_i64]; omega
                have htm : (T : Int).tmod 8 = (e : Int) := by rw [Int.tmod_eq_emod_of_nonneg (by omega)]; exact hei
                have hwe : IntKind.i64.wrap (e : Int) = (e : Int) := by rw [IntKind.wrap_i64]; omega
                have hqm : (q : Int) < (m : Int) := by omega
                have he8 : e < 8 := by omega
                obtain ⟨D, hD⟩ : ∃ D, D = 2 ^ d := ⟨_, rfl⟩
                have hsr : (128 : Int) / 2 ^ e = (D : Int) := by rw [shr128 e he8, hD, show 7 - e = d by omega]
                rw [Nat.one_mul, ← hD] at hl2 hl3 hl4
                obtain ⟨B, hB⟩ : ∃ B, B = o[q].toNat := ⟨_, rfl⟩
                have hcB : w2.cell? ⟨w.heap.size, q, none⟩ = some (.int .u8 (B : Int)) := by
                  rw [hr2.cell, List.getElem?_map, List.getElem?_eq_getElem hqo, hB]; rfl
                have hfB := hr2.free q
                rw [← hB] at hl2 hl4
                obtain ⟨C, hC⟩ : ∃ C, C = B + D := ⟨_, rfl⟩
                have hadd : IntKind.u8.wrap ((B : Int) + (D : Int)) = (C : Int) := by rw [IntKind.wrap_u8]; omega
                have hadd2 : ((B : Int) + (D : Int)) % 256 = (C : Int) := by omega
                rw [← hC] at hl2 hl4
                have HL4 := Lib.hid hl4
                have HL2 := Lib.hid hl2
                clear hq he hr' hd hD hB hC hl1 hl2 hl3 hl4
                simp only [List.take_succ_cons, List.take_zero, List.drop_succ_cons, List.drop_zero]
                repeat still_step
                refine wpStill_nil ?_
                go_wp2
                go_roundw
                case rel =>
                  have hT2 : T + 1 = t + W - K := by have := HT.out; omega
                  refine ⟨K, o.set q (UInt8.ofNat C), by rw [← hT2]; go_num, rfl, by omega, by rw [List.length_set]; exact HLe.out, row_set hr2 q C HL2.out, ?_, hb2.setCell (Nat.le_refl _) _⟩
                  have h1 := piece_step V x W (K + 1) 1 hj (by omega)
                  rw [Nat.add_sub_cancel, Nat.pow_one, ← HBe.out] at h1
                  rw [HL4.out, ← hT2, Nat.pow_one, h1]
                case measure => simp [intOf]
            · obtain rfl : j = 0 := by omega
              go_wp2
              go_roundw
              case rel =>
                have hT2 : T = W * (k + 1) := by have := HT.out; rw [Nat.mul_add, Nat.mul_one]; have := HTT.out; omega
                refine ⟨k + 1, o, by rw [hT2], by go_num, by omega, HLe.out, hr, ?_, ?_, hb⟩
                · rw [HVal.out, Nat.sub_zero, Nat.pow_zero, Nat.div_one, List.take_succ_eq_append_getElem hkl, pval_snoc, ← HX.out, ← HVV.out, hT2]
                · intro y hy
                  rw [List.take_succ_eq_append_getElem hkl, List.mem_append] at hy
                  rcases hy with hy | hy
                  · exact HA.out y hy
                  · rw [List.mem_singleton.1 hy, ← HX.out]; exact HX2.out
              case measure => simp [intOf]; omega
      · obtain ⟨y, hy⟩ : ∃ y, y = x / 2 ^ W := ⟨_, rfl⟩
        have hz : (x : Int) / 2 ^ W = (y : Int) := by rw [hy]; simp
        have hy0 : y ≠ 0 := by
          rw [hy]
          intro h
          rcases Nat.div_eq_zero_iff.1 h with h | h
          · have := Nat.two_pow_pos W; omega
          · exact hx2 h
        have hW64 : (W : Int) < 64 := by
          have h1 := H64.out x hxm
          rcases (show W < 64 ∨ W = 64 by omega) with h | h
          · omega
          · rw [h] at hx2; exact absurd h1 hx2
        have e1 : ((y : Int) != 0) = true := by simpa using hy0
        have HNo := Lib.hid (packs_no hxm hx2)
        clear hx2 hy hy0
        go_wp2
        go_ret2
        rw [HNo.out]
        exact RetEO.nil _ hb
    · obtain rfl : k = n := by omega
      have hall : ∀ x ∈ l, x < 2 ^ W := by
        have := HA.out
        rw [List.take_of_length_le (by have := HN.out; omega)] at this
        exact this
      have HAll := Lib.hid hall
      clear hall
      go_wp2
      go_ret2
      rw [packs_ok HAll.out]
      have hv := HV.out
      rw [List.take_of_length_le (by have := HN.out; omega)] at hv
      have hob : out = bpack l W := by
        unfold bpack
        rw [HN.out, ← HM.out]
        exact eq_be HLen.out hv
      exact ⟨_, rfl, by rw [← hob, HLen.out]; exact own_of_row hr (by rw [List.length_map]; exact HLen.out) (Nat.le_refl _) (by omega), hb⟩
theorem rpack_out (A : Option Addr) (n c : Nat) (W : Int) (w : World) (hW : W < 0 ∨ 64 < W) :
    Calls Tryd.prog 34 #[.slice A n c, .int .i64 W] w (RetEO w ([], 1)) := by
  rcases hW with h | h
  · have d1 : decide (W < 0) = true := decide_eq_true (by omega)
    go_enter Tryd.func34, Tryd.ntmps34
    go_wp2
    go_ret2
    exact RetEO.nil _ (Below.refl _ _)
  · have d1 : decide (W < 0) = false := decide_eq_false (by omega)
    have d2 : decide (64 < W) = true := decide_eq_true (by omega)
    go_enter Tryd.func34, Tryd.ntmps34
    go_wp2
    go_ret2
    exact RetEO.nil _ (Below.refl _ _)
theorem rpack_isO {l : List Nat} {v : Value} {w : World} (W : Int) (hl : IsU l v w) (h4 : l.length ≤ 4096) (h64 : ∀ x ∈ l, x < 2 ^ 64) :
    Calls Tryd.prog 34 #[v, .int .i64 W] w (RetEO w (packsAny l W)) := by
  obtain ⟨A, c, rfl, _, _, _, h3⟩ := hl
  by_cases h : W < 0 ∨ 64 < W
  · unfold packsAny
    rw [if_pos h]
    exact rpack_out _ _ _ _ _ h
  · obtain ⟨K, rfl⟩ := Int.eq_ofNat_of_zero_le (show 0 ≤ W by omega)
    rw [packsAny_in _ _ (by omega)]
    exact rpack_own A _ c l K w rfl h4 (by omega) h3 h64
theorem rpack_is {l : List Nat} {v : Value} {w : World} (W : Int) (hl : IsU l v w) (h4 : l.length ≤ 4096) (h64 : ∀ x ∈ l, x < 2 ^ 64) :
    Calls Tryd.prog 34 #[v, .int .i64 W] w (RetE w (packsAny l W)) := (rpack_isO W hl h4 h64).mono fun _ _ h => h.e
end Go.Proofs.YtchgpgnipmmflaaDoor

/- The contract of the reference's Unpack. -/





namespace Go.Proofs.YtchgpgnipmmflaaDoor

open Go.RowKit

def RUnpRel (l : List UInt8) (m M W : Nat) (w : World) (v at_ i : Value) (wr : World) : Prop :=
  ∃ k : Nat, k ≤ M ∧ at_ = .int .i64 ((W * k : Nat) : Int) ∧ i = .int .i64 (k : Int) ∧ wr.ownsRow w.heap.size 23 1 v k ((bnums (bval l) (8 * m) W k).map uv) ∧ Below w.heap.size w wr ∧ w.heap.size ≤ wr.heap.size
def RUnpRel2 (l : List UInt8) (m t W : Nat) (x at_ i : Value) : Prop :=
  ∃ j : Nat, at_ = .int .i64 ((t + j : Nat) : Int) ∧ i = .int .i64 (j : Int) ∧ x = .int .u64 ((btake (bval l) (8 * m) t j : Nat) : Int) ∧ j ≤ W

set_option maxHeartbeats 4000000 in
set_option maxRecDepth 100000 in
theorem runpack_own (A : Option Addr) (n c : Nat) (l : List UInt8) (M W : Nat) (w : World) (hA : A = none → n = 0) (hn : l.length = n) (hnc : n ≤ c) (hcm : c ≤ maxLen) (hnb : n ≤ 1000000) (hM : M ≤ 4096) (hW : W ≤ 64) (hl : Lies w A (l.map bv)) :
    Calls Tryd.prog 41 #[.slice A n c, .int .i64 (M : Int), .int .i64 (W : Int)] w (RetUO w (unpacks l M W)) := by
  have HN := Lib.hid hn
  have HCM := Lib.hid hcm
  clear hn hcm
  obtain ⟨m, hm⟩ : ∃ m, m = bsize M W := ⟨_, rfl⟩
  have hmW : W * M ≤ 8 * m := by rw [hm]; exact bsize_le M W
  have hm4 : m ≤ 32768 := by have := prod_le hM hW; unfold bsize at hm; omega
  have hsz := fun w => rsize_in M W w hM hW
  rw [← hm] at hsz
  have HS := Lib.hid hsz
  have HM := Lib.hid hm
  have HMW := Lib.hid hmW
  clear hsz hm hmW
  have d1 : decide ((M : Int) < 0) = false := decide_eq_false (by omega)
  have d2 : decide ((4096 : Int) < (M : Int)) = false := decide_eq_false (by omega)
  have d3 : decide ((W : Int) < 0) = false := decide_eq_false (by omega)
  have d4 : decide ((64 : Int) < (W : Int)) = false := decide_eq_false (by omega)
  by_cases hsh : n < m
  · have hun : unpacks l M W = ([], [], 2) := by unfold unpacks; rw [if_pos (by rw [HN.out, ← HM.out]; exact hsh)]
    have HU := Lib.hid hun
    clear hun
    go_enter Tryd.func41, Tryd.ntmps41
    go_wp2_with (go_at_call 58; refine (HS.out _).mono ?_; rintro e w' ⟨rfl, rfl⟩)
    go_ret3
    rw [HU.out]
    exact RetUO.nil _ (Below.refl _ _)
  · have hmn : m ≤ n := by omega
    obtain ⟨l', hl'⟩ : ∃ l', l' = l.take m := ⟨_, rfl⟩
    have hl'm : l'.length = m := by rw [hl', List.length_take]; have := HN.out; omega
    have hlies' : Lies w A (l'.map bv) := by rw [hl', List.map_take]; exact hl.take m
    have HL' := Lib.hid hl'
    have HLM := Lib.hid hl'm
    clear hl' hl'm
    have hb0 : Below w.heap.size w (w.alloc (.cells #[] 23)) := (Below.refl _ _).alloc (Nat.le_refl _) _
    have hown0 : (w.alloc (.cells #[] 23)).ownsRow w.heap.size 23 1 (.slice (some ⟨w.heap.size, 0, none⟩) 0 0) 0 [] := World.ownsRow_made w #[] 0 (Nat.le_refl _) (by unfold maxLen; omega) (by simp)
    go_enter Tryd.func41, Tryd.ntmps41
    go_wp2_with (go_at_call 58; refine (HS.out _).mono ?_; rintro e w' ⟨rfl, rfl⟩)
    go_loopw [10, 11, 12] (RUnpRel l' m M W w) (fun _ _ i _ => M - (intOf i).toNat)
    case atStart => exact ⟨0, by omega, rfl, rfl, by simpa [bnums] using hown0, hb0, by simp⟩
    case round =>
      obtain ⟨k, hkM, rfl, rfl, hown, hb, hwz⟩ := hrel
      clear hb0 hown0
      by_cases hlt : k < M
      · have hstep : W * k + W ≤ 8 * m := by
          have h1 : W * (k + 1) ≤ W * M := Nat.mul_le_mul_left _ hlt
          have := HMW.out
          rw [Nat.mul_add, Nat.mul_one] at h1
          omega
        obtain ⟨t, ht⟩ : ∃ t, t = W * k := ⟨_, rfl⟩
        rw [← ht] at hstep ⊢
        have HTT := Lib.hid ht
        clear ht
        go_wp2
        go_loop [13, 11, 14] (RUnpRel2 l' m t W) (fun _ _ i => W - (intOf i).toNat)
        case atStart => exact ⟨0, rfl, rfl, by rw [btake_zero]; rfl, by omega⟩
        case round =>
          obtain ⟨j, rfl, rfl, rfl, hj⟩ := hrel
          obtain ⟨X, hX⟩ : ∃ X, X = btake (bval l') (8 * m) t j := ⟨_, rfl⟩
          rw [← hX]
          by_cases hjW : j < W
          · obtain ⟨T, hT⟩ : ∃ T, T = t + j := ⟨_, rfl⟩
            rw [← hT]
            obtain ⟨q, hq⟩ : ∃ q, q = T / 8 := ⟨_, rfl⟩
            obtain ⟨r, hr⟩ : ∃ r, r = 8 - T % 8 := ⟨_, rfl⟩
            obtain ⟨d, hd⟩ : ∃ d, d = r - 1 := ⟨_, rfl⟩
            have hqi : (T : Int) / 8 = (q : Int) := by omega
            have hdi : 7 - (T : Int) % 8 = (d : Int) := by omega
            have hd8 : d ≤ 7 := by omega
            have hqn : q < n := by omega
            have hqm : (q : Int) < (n : Int) := by omega
            obtain ⟨hql, htb⟩ := btake_at (n := 1) hq hr hd HLM.out (by omega) (by omega) (show T + 1 ≤ 8 * m by omega)
            obtain ⟨ad, rfl, _, hcell⟩ := (hlies'.below hb).cell (k := q) (by simpa using hql)
            obtain ⟨B, hB⟩ : ∃ B, B = l'[q].toNat := ⟨_, rfl⟩
            have hB8 : B < 256 := by have := l'[q].toNat_lt; omega
            have hcB : wr.cell? (ad.add q) = some (.int .u8 (B : Int)) := by rw [hcell, List.getElem_map, hB]; rfl
            rw [← hB] at htb
            obtain ⟨β, hβ⟩ : ∃ β, β = btake (bval l') (8 * m) T 1 := ⟨_, rfl⟩
            rw [← hβ] at htb
            obtain ⟨E, hE⟩ : ∃ E, E = B / 2 ^ d := ⟨_, rfl⟩
            have hEi : (B : Int) / 2 ^ d = (E : Int) := by rw [hE]; simp
            have hE8 : E < 256 := by have := Nat.div_le_self B (2 ^ d); omega
            have hbit : bits .and .u8 (E : Int) 1 = (β : Int) := by
              rw [u8_and _ _ (by omega) (by omega) (by omega) (by omega), ← htb, ← hE, Int.toNat_natCast, show (1 : Int).toNat = 1 from rfl, nat_mask1]
            have hsum : X * 2 ^ 1 + β = btake (bval l') (8 * m) t (j + 1) := by rw [hX, hβ, hT]; exact btake_add (by omega)
            have hlt64 : X * 2 ^ 1 + β < 2 ^ 64 := by
              rw [hsum]
              have h1 := btake_lt (bval l') (8 * m) t (j + 1)
              have h2 : 2 ^ (j + 1) ≤ 2 ^ 64 := Nat.pow_le_pow_right (by omega) (by omega)
              omega
            obtain ⟨Y, hY⟩ : ∃ Y, Y = X * 2 ^ 1 := ⟨_, rfl⟩
            obtain ⟨Z, hZ⟩ : ∃ Z, Z = X * 2 ^ 1 + β := ⟨_, rfl⟩
            have hmu : IntKind.u64.wrap (2 * (X : Int)) = (Y : Int) := by rw [IntKind.wrap_u64]; omega
            have had : IntKind.u64.wrap ((Y : Int) + (β : Int)) = (Z : Int) := by rw [IntKind.wrap_u64]; omega
            rw [← hZ] at hsum
            have hβ1 : (β : Int) ≤ 1 := by omega
            have HSum := Lib.hid hsum
            have HT := Lib.hid hT
            have HB8 := Lib.hid hB8
            clear hq hr hd hE hβ hB hX hY hZ hsum hlt64 htb hcell hT hB8
            go_wp2
            go_round
            case rel => exact ⟨j + 1, by rw [HT.out]; go_num, by go_num, by rw [HSum.out], by omega⟩
            case measure => simp [intOf]; omega
          · obtain rfl : j = W := by omega
            have HX := Lib.hid hX
            clear hX
            go_wp2_with (at_builtin; go_must (refine wpList_push elemU rfl _ _ rfl w.heap.size _ k _ (.int .u64 (X : Int)) wr w rfl rfl rfl rfl hown hb hwz (by omega) (by omega) ?_))
            intro v5 w5 hown5 hb5 _ _
            have hu : Value.int .u64 (X : Int) = uv X := rfl
            have hnew : (bnums (bval l') (8 * m) j k).map uv ++ [Value.int .u64 (X : Int)] = (bnums (bval l') (8 * m) j (k + 1)).map uv := by
              rw [bnums_succ, List.map_append, hu, HX.out, HTT.out]; rfl
            rw [hnew] at hown5
            have hz5 := hb5.size
            clear hu hnew
            go_wp2
            go_roundw
            case rel => exact ⟨k + 1, by omega, by rw [Nat.mul_add, Nat.mul_one, ← HTT.out]; go_num, by go_num, hown5, hb5, hz5⟩
            case measure => simp [intOf]; omega
      · obtain rfl : k = M := by omega
        have hU : IsU (bnums (bval l') (8 * m) W k) _ wr := isU_own hown
        obtain ⟨L, hL⟩ : ∃ L, L = bnums (bval l') (8 * m) W k := ⟨_, rfl⟩
        rw [← hL] at hU
        have hLl : L.length = k := by rw [hL]; exact bnums_len _ _ _ _
        have HOWN := Lib.hid (show wr.ownsRow w.heap.size 23 1 _ L.length (L.map uv) by rw [hL, bnums_len]; exact hown)
        have hLW : ∀ x ∈ L, x < 2 ^ W := by rw [hL]; exact bnums_lt
        have hL64 : ∀ x ∈ L, x < 2 ^ 64 := fun x hx => Nat.lt_of_lt_of_le (hLW x hx) (Nat.pow_le_pow_right (by omega) hW)
        have hpk := bpack_bnums (l := l') (w := W) (n := k) (by rw [HLM.out, ← HM.out])
        rw [← HM.out, ← hL] at hpk
        have hun : unpacks l k W = if bval l' % 2 ^ (8 * m - W * k) = 0 then (L, l.drop m, 0) else ([], [], 2) := by
          unfold unpacks
          rw [← HM.out, if_neg (by rw [HN.out]; omega), ← HL'.out, ← hL]
        have hpc := rpack_is (W : Int) hU (by omega) hL64
        rw [packsAny_in _ _ hW, packs_ok hLW] at hpc
        have HPC := Lib.hid hpc
        have HPK := Lib.hid hpk
        have HUN := Lib.hid hun
        have HU := Lib.hid hU
        clear hL hLl hLW hL64 hpk hun hpc hU hown
        go_wp2_with (go_at_call 34; refine HPC.out.mono ?_; rintro e w5 ⟨v5, rfl, hv5, hb5⟩)
        have hBl : IsB l' (.slice A m c) wr := ⟨A, c, by rw [HLM.out], fun h => by rw [HLM.out]; have := hA h; omega, by rw [HLM.out]; omega, HCM.out, hlies'.below hb⟩
        have HV5 := Lib.hid hv5
        have HBL := Lib.hid (hBl.below hb5)
        have HB5 := Lib.hid hb5
        clear hv5 hBl hb5
        refine wp_region_list [.is v5, .is (.string ⟨(bpack L W).toArray⟩), .is (.slice A n c), .is (.int .i64 (m : Int)), .is (.slice A m c), .is (.string ⟨l'.toArray⟩), .is (.bool !(bpack L W == l'))] [some 75, some 76, some 77, some 78, some 79, some 80, some 81] (by kernel_rfl) (by kernel_rfl) (by kernel_rfl) rfl ⟨?_, ?_, ?_, ?_, ?_, ?_, ?_, trivial⟩ ?_
        · intro ρ W1 hb1 H
          exact gives_move rfl (H.old 15 _ (by kernel_rfl) rfl) ⟨rfl, Below.refl _ _⟩
        · intro ρ W1 hb1 H
          have e : ρ (.tmp 75) = v5 := H.new 75 0 (by kernel_rfl)
          exact gives_convert rfl e ((HV5.out.below hb1).text _ _ _ Tryd.underlying32 Tryd.underlying5 Tryd.underlying9) ⟨rfl, Below.refl _ _⟩
        · intro ρ W1 hb1 H
          exact gives_move rfl (H.old 0 _ (by kernel_rfl) rfl) ⟨rfl, Below.refl _ _⟩
        · intro ρ W1 hb1 H
          exact gives_move rfl (H.old 9 _ (by kernel_rfl) rfl) ⟨rfl, Below.refl _ _⟩
        · intro ρ W1 hb1 H
          exact gives_upto elemB rfl (H.new 77 2 (by kernel_rfl)) (H.new 78 3 (by kernel_rfl)) (show m ≤ c by omega) ⟨rfl, Below.refl _ _⟩
        · intro ρ W1 hb1 H
          have e : ρ (.tmp 79) = .slice A m c := H.new 79 4 (by kernel_rfl)
          exact gives_convert rfl e ((HBL.out.below hb1).text _ _ _ Tryd.underlying32 Tryd.underlying5 Tryd.underlying9) ⟨rfl, Below.refl _ _⟩
        · intro ρ W1 hb1 H
          exact gives_textne rfl (H.new 76 1 (by kernel_rfl)) (H.new 80 5 (by kernel_rfl)) ⟨rfl, Below.refl _ _⟩
        intro vs w6 hb6 hfs
        have f6 : vs 6 = .bool !(bpack L W == l') := hfs 6 (by decide)
        clear hfs
        simp only [putAll, Nat.zero_add, Nat.reduceAdd]
        generalize vs 0 = z0
        generalize vs 1 = z1
        generalize vs 2 = z2
        generalize vs 3 = z3
        generalize vs 4 = z4
        generalize vs 5 = z5
        simp only [f6, Act.put, List.setIfInBounds_toArray, List.set_cons_succ, List.set_cons_zero]
        clear f6
        by_cases hz : bval l' % 2 ^ (8 * m - W * k) = 0
        · have heq : (bpack L W == l') = true := by rw [beq_iff_eq]; exact HPK.out.2 hz
          have hun := HUN.out
          rw [if_pos hz] at hun
          have HU2 := Lib.hid hun
          clear hun hz
          simp only [heq, Bool.not_true]
          clear heq
          have hb7 : Below w6.heap.size w6 (w6.alloc (.cells #[] 5)) := (Below.refl _ _).alloc (Nat.le_refl _) _
          have hown7 : (w6.alloc (.cells #[] 5)).ownsRow w6.heap.size 5 1 (.slice (some ⟨w6.heap.size, 0, none⟩) 0 0) 0 [] := World.ownsRow_made w6 #[] 0 (Nat.le_refl _) (by unfold maxLen; omega) (by simp)
          have hbw6 := below_then (below_then hb HB5.out) hb6
          have hl7 := hl.below (below_then hbw6 hb7)
          have hz7 : w6.heap.size ≤ (w6.alloc (.cells #[] 5)).heap.size := by simp
          have hml : (l.map bv).length = n := by rw [List.length_map]; exact HN.out
          have HML := Lib.hid hml
          clear hml
          go_wp2_with (refine wpList_from elemB rfl _ _ rfl A n c m (l.map bv) rfl rfl hmn hnc HML.out hl7 hA ?_)
          intro B hlB hB
          have hdl : ((l.map bv).drop m).length = n - m := by rw [List.length_drop, HML.out]
          have HDL := Lib.hid hdl
          clear hdl
          go_wp2_with (at_builtin; refine wpList_join elemB rfl _ _ rfl w6.heap.size _ _ _ _ _ _ ((l.map bv).drop m) w6 rfl rfl hB HDL.out hlB (by rw [← List.map_drop]; exact bv_one _) hown7 hb7 hz7 (by omega) (by omega) ?_)
          intro v8 w8 hown8 hb8 _ _
          go_wp2
          go_ret3
          rw [HU2.out]
          refine ⟨_, _, rfl, own_below HOWN.out (below_then (below_then HB5.out hb6) hb8), ?_, below_then hbw6 hb8⟩
          rw [← List.map_drop] at hown8
          exact ⟨_, own_base hbw6.size hown8⟩
        · have heq : (bpack L W == l') = false := by rw [beq_eq_false_iff_ne]; exact fun h => hz (HPK.out.1 h)
          have hun := HUN.out
          rw [if_neg hz] at hun
          have HU2 := Lib.hid hun
          clear hun hz
          simp only [heq, Bool.not_false]
          clear heq
          go_wp2
          go_ret3
          rw [HU2.out]
          exact RetUO.nil _ (below_then (below_then hb HB5.out) hb6)
theorem runpack_out (A : Option Addr) (n c : Nat) (M W : Int) (w : World) (h : ¬ (0 ≤ M ∧ M ≤ 4096 ∧ 0 ≤ W ∧ W ≤ 64)) :
    Calls Tryd.prog 41 #[.slice A n c, .int .i64 M, .int .i64 W] w (RetUO w ([], [], 1)) := by
  rcases (by omega : M < 0 ∨ 4096 < M ∨ ((0 ≤ M ∧ M ≤ 4096) ∧ W < 0) ∨ ((0 ≤ M ∧ M ≤ 4096) ∧ 64 < W)) with h | h | ⟨⟨h1, h2⟩, h⟩ | ⟨⟨h1, h2⟩, h⟩
  · have d1 : decide (M < 0) = true := decide_eq_true (by omega)
    go_enter Tryd.func41, Tryd.ntmps41
    go_wp2
    go_ret3
    exact RetUO.nil _ (Below.refl _ _)
  · have d1 : decide (M < 0) = false := decide_eq_false (by omega)
    have d2 : decide (4096 < M) = true := decide_eq_true (by omega)
    go_enter Tryd.func41, Tryd.ntmps41
    go_wp2
    go_ret3
    exact RetUO.nil _ (Below.refl _ _)
  · have d1 : decide (M < 0) = false := decide_eq_false (by omega)
    have d2 : decide (4096 < M) = false := decide_eq_false (by omega)
    have d3 : decide (W < 0) = true := decide_eq_true (by omega)
    go_enter Tryd.func41, Tryd.ntmps41
    go_wp2
    go_ret3
    exact RetUO.nil _ (Below.refl _ _)
  · have d1 : decide (M < 0) = false := decide_eq_false (by omega)
    have d2 : decide (4096 < M) = false := decide_eq_false (by omega)
    have d3 : decide (W < 0) = false := decide_eq_false (by omega)
    have d4 : decide (64 < W) = true := decide_eq_true (by omega)
    go_enter Tryd.func41, Tryd.ntmps41
    go_wp2
    go_ret3
    exact RetUO.nil _ (Below.refl _ _)
theorem runpack_isO {l : List UInt8} {v : Value} {w : World} (M W : Int) (hl : IsB l v w) (h4 : l.length ≤ 1000000) :
    Calls Tryd.prog 41 #[v, .int .i64 M, .int .i64 W] w (RetUO w (unpacksAny l M W)) := by
  obtain ⟨A, c, rfl, h1, h2, h5, h3⟩ := hl
  by_cases h : 0 ≤ M ∧ M ≤ 4096 ∧ 0 ≤ W ∧ W ≤ 64
  · obtain ⟨K, rfl⟩ := Int.eq_ofNat_of_zero_le (show 0 ≤ M by omega)
    obtain ⟨J, rfl⟩ := Int.eq_ofNat_of_zero_le (show 0 ≤ W by omega)
    rw [unpacksAny_in _ _ _ (by omega) (by omega)]
    exact runpack_own A _ c l K J w h1 rfl h2 h5 h4 (by omega) (by omega) h3
  · unfold unpacksAny
    rw [if_neg h]
    exact runpack_out _ _ _ _ _ _ h
theorem runpack_is {l : List UInt8} {v : Value} {w : World} (M W : Int) (hl : IsB l v w) (h4 : l.length ≤ 1000000) :
    Calls Tryd.prog 41 #[v, .int .i64 M, .int .i64 W] w (RetUE w (unpacksAny l M W)) := (runpack_isO M W hl h4).mono fun _ _ h => h.ue
end Go.Proofs.YtchgpgnipmmflaaDoor

/- Contracts of layer 8's reference: Put, Take. -/









namespace Go.Proofs.YtchgpgnipmmflaaDoor

open Go.RowKit

theorem rmost_is {l : List Nat} {v : Value} {w : World} (h : IsV uv l v w) (hb : l.length ≤ 1000000) (h64 : ∀ x ∈ l, x < 2 ^ 64) : Calls Tryd.prog 30 #[v] w fun e w' => e = .returned (.int .i64 (wmost l : Int)) ∧ w = w' := by
  obtain ⟨A, c, rfl, h2, h3, h4, h5⟩ := h
  exact rmost_any A _ c l w h2 rfl h3 hb h5 h64
theorem dputE_no {l : List Int} {s : Bool} (h : dplain l s = none) : dputE l s = ([], 1) := by unfold dputE; rw [h]
theorem dputE_len {l : List Int} {s : Bool} (h : l.length < 1 ∨ 512 < l.length) : dputE l s = ([], 1) := by
  unfold dputE
  cases dplain l s with
  | none => rfl
  | some u => dsimp only; rw [if_pos h]
theorem dputE_ok {l : List Int} {s : Bool} {u : List Nat} (h : dplain l s = some u) (h1 : 1 ≤ l.length) (h2 : l.length ≤ 512) : dputE l s = (dlay u, 0) := by
  unfold dputE
  rw [h]
  dsimp only
  rw [if_neg (by omega)]
theorem dpacks {u : List Nat} (h : ∀ x ∈ u, x < 2 ^ 64) : packsAny u (dwide u : Int) = (bpack u (dwide u), 0) := by
  obtain ⟨_, h2, h3⟩ := dwide_room h
  rw [packsAny_in _ _ h2, packs_ok h3]
theorem bsize_small {n W : Nat} (hn : n ≤ 512) (hW : W ≤ 64) : bsize n W ≤ 4096 := by
  unfold bsize
  have : n * W ≤ 512 * 64 := Nat.mul_le_mul hn hW
  omega
theorem dtakeE_no {l : List UInt8} {s : Bool} (h : (dlook l).2.2.2.2 ≠ 0 ∨ (dlook l).1 ≠ 1) : dtakeE l s = ([], [], 2) := by unfold dtakeE; rw [if_pos h]
theorem dtakeE_cut {l : List UInt8} {c m : Int} {r : List UInt8} {s : Bool} (h : dlook l = (1, c, m, r, 0)) {u : List Nat} {q : List UInt8} {x : Int} (hu : unpacksAny r m (wof c) = (u, q, x)) (hx : x ≠ 0) : dtakeE l s = ([], [], 2) := by
  unfold dtakeE
  rw [h]
  dsimp only
  rw [if_neg (by decide), hu]
  dsimp only
  rw [if_pos hx]
theorem dtakeE_bad {l : List UInt8} {c m : Int} {r : List UInt8} {s : Bool} (h : dlook l = (1, c, m, r, 0)) {u : List Nat} {q : List UInt8} (hu : unpacksAny r m (wof c) = (u, q, 0)) (hm : dmade u s = none) : dtakeE l s = ([], [], 2) := by
  unfold dtakeE
  rw [h]
  dsimp only
  rw [if_neg (by decide), hu]
  dsimp only
  rw [if_neg (by decide), hm]
/-- Numbers, bytes and an error that a call answers. -/
def RetIB (w : World) (p : List Int × List UInt8 × Int) (e : Ending) (w' : World) : Prop := ∃ u v, e = .returned (.tuple #[u, v, .int .i64 p.2.2]) ∧ IsV iv p.1 u w' ∧ IsB p.2.1 v w' ∧ Below w.heap.size w w'
theorem RetIB.nil {w w' : World} (n : Int) (hb : Below w.heap.size w w') : RetIB w ([], [], n) (.returned (.tuple #[.slice none 0 0, .slice none 0 0, .int .i64 n])) w' := ⟨_, _, rfl, isV_nil _ _, isB_nil _, hb⟩
/-- The same, the bytes in a row of the call's own. -/
def RetIO (w : World) (p : List Int × List UInt8 × Int) (e : Ending) (w' : World) : Prop := ∃ u v, e = .returned (.tuple #[u, v, .int .i64 p.2.2]) ∧ IsV iv p.1 u w' ∧ OwnB w p.2.1 v w' ∧ Below w.heap.size w w'
theorem RetIO.nil {w w' : World} (n : Int) (hb : Below w.heap.size w w') : RetIO w ([], [], n) (.returned (.tuple #[.slice none 0 0, .slice none 0 0, .int .i64 n])) w' := ⟨_, _, rfl, isV_nil _ _, OwnB.nil _ _, hb⟩
theorem RetIO.ib {w w' : World} {p : List Int × List UInt8 × Int} {e : Ending} (h : RetIO w p e w') : RetIB w p e w' := by
  obtain ⟨u, v, h1, h2, h3, h4⟩ := h
  exact ⟨u, v, h1, h2, h3.isB, h4⟩
theorem dlook_bd (l : List UInt8) : 0 ≤ (dlook l).1 ∧ (dlook l).1 ≤ 65536 ∧ 0 ≤ (dlook l).2.1 ∧ (dlook l).2.1 ≤ 31 ∧ 0 ≤ (dlook l).2.2.1 ∧ (dlook l).2.2.1 ≤ 512 ∧ (dlook l).2.2.2.1.length ≤ l.length := by
  unfold dlook
  split
  · simp
  · rename_i h
    have h1 := (bval_two (l := l) (by omega)).2
    dsimp only
    rw [List.length_drop]
    omega
theorem unpacks_lt {l : List UInt8} {M W : Nat} (hW : W ≤ 64) : ∀ x ∈ (unpacks l M W).1, x < 2 ^ 64 := by
  intro x hx
  unfold unpacks at hx
  split at hx
  · simp at hx
  · split at hx
    · exact Nat.lt_of_lt_of_le (bnums_lt x hx) (Nat.pow_le_pow_right (by omega) hW)
    · simp at hx
theorem unpacks_many {l : List UInt8} {M W : Nat} : (unpacks l M W).1.length ≤ M := by
  unfold unpacks
  split
  · simp
  · split
    · rw [bnums_len]; exact Nat.le_refl _
    · simp
theorem unpacksAny_lt {l : List UInt8} {M W : Int} : (∀ x ∈ (unpacksAny l M W).1, x < 2 ^ 64) ∧ (unpacksAny l M W).1.length ≤ 4096 := by
  unfold unpacksAny
  split
  · exact ⟨unpacks_lt (by omega), Nat.le_trans unpacks_many (by omega)⟩
  · simp
end Go.Proofs.YtchgpgnipmmflaaDoor

/- The contracts of varint and of its reference, said of opaque values that hold bytes. -/



namespace Go.Proofs.YtchgpgnipmmflaaDoor

open Go.RowKit

def TakenN (o : Option (Int × List UInt8)) : Int := match o with | none => 0 | some p => p.1
def TakenR (o : Option (Int × List UInt8)) : List UInt8 := match o with | none => [] | some p => p.2
def TakenE (o : Option (Int × List UInt8)) : Int := match o with | none => 2 | some _ => 0
theorem RetT.parts {k : IntKind} {w w' : World} {o : Option (Int × List UInt8)} {e : Ending} (h : RetT k w o e w') :
    ∃ r, e = .returned (.tuple #[.int k (TakenN o), r, .int .i64 (TakenE o)]) ∧ IsB (TakenR o) r w' ∧ Below w.heap.size w w' := by
  cases o with
  | none => exact ⟨_, h.1, isB_nil _, h.2⟩
  | some p =>
    obtain ⟨A, c, h1, h2, h3, h4, h5, h6⟩ := h
    exact ⟨_, h1, h5.isB, h6⟩
theorem RetT.owned {k : IntKind} {w w' : World} {o : Option (Int × List UInt8)} {e : Ending} (h : RetT k w o e w') :
    ∃ r, e = .returned (.tuple #[.int k (TakenN o), r, .int .i64 (TakenE o)]) ∧ OwnB w (TakenR o) r w' ∧ Below w.heap.size w w' := by
  cases o with
  | none => exact ⟨_, h.1, OwnB.nil _ _, h.2⟩
  | some p =>
    obtain ⟨A, c, h1, h2, h3, h4, h5, h6⟩ := h
    exact ⟨_, h1, h5, h6⟩
theorem take_isB {l : List UInt8} {v : Value} {w : World} (h : IsB l v w) (hl : l.length ≤ 1000000) : Calls Tryd.prog 60 #[v] w (RetT .u64 w ((vtake l).map fun p => ((p.1 : Int), p.2))) := by
  obtain ⟨A, c, rfl, h2, h3, h4, h5⟩ := h
  exact take_any A _ c l w h2 rfl h3 hl h5
theorem rtake_isB {l : List UInt8} {v : Value} {w : World} (h : IsB l v w) (hl : l.length ≤ 1000000) : Calls Tryd.prog 64 #[v] w (RetT .u64 w ((vtake l).map fun p => ((p.1 : Int), p.2))) := by
  obtain ⟨A, c, rfl, h2, h3, h4, h5⟩ := h
  exact rtake_any A _ c l w h2 rfl h3 hl h5
theorem takeInt_isB {l : List UInt8} {v : Value} {w : World} (s : Bool) (h : IsB l v w) (hl : l.length ≤ 1000000) : Calls Tryd.prog 36 #[v, .bool s] w (RetT .i64 w (vtint l s)) := by
  obtain ⟨A, c, rfl, h2, h3, h4, h5⟩ := h
  exact takeInt_any A _ c s l w h2 rfl h3 hl h5
theorem rtakeInt_isB {l : List UInt8} {v : Value} {w : World} (s : Bool) (h : IsB l v w) (hl : l.length ≤ 1000000) : Calls Tryd.prog 40 #[v, .bool s] w (RetT .i64 w (vtint l s)) := by
  obtain ⟨A, c, rfl, h2, h3, h4, h5⟩ := h
  exact rtakeInt_any A _ c s l w h2 rfl h3 hl h5
theorem put_isB {l : List UInt8} {v : Value} {w : World} (x : Int) (h : IsB l v w) (hl : l.length ≤ 1000000) (h0 : 0 ≤ x) (h1 : x < 18446744073709551616) :
    Calls Tryd.prog 50 #[v, .int .u64 x] w fun e w' => ∃ v, e = .returned v ∧ IsB (l ++ vput x.toNat) v w' ∧ Below w.heap.size w w' := by
  obtain ⟨A, c, rfl, h2, h3, h4, h5⟩ := h
  exact (put_any A _ c x l w h2 rfl hl h5 h0 h1).mono fun _ _ h => h.isB
theorem rput_isB {l : List UInt8} {v : Value} {w : World} (x : Int) (h : IsB l v w) (hl : l.length ≤ 1000000) (h0 : 0 ≤ x) (h1 : x < 18446744073709551616) :
    Calls Tryd.prog 56 #[v, .int .u64 x] w fun e w' => ∃ v, e = .returned v ∧ IsB (l ++ vput x.toNat) v w' ∧ Below w.heap.size w w' := by
  obtain ⟨A, c, rfl, h2, h3, h4, h5⟩ := h
  exact (rput_any A _ c x l w h2 rfl hl h5 h0 h1).mono fun _ _ h => h.isB
theorem putInt_isB {l : List UInt8} {v : Value} {w : World} (x : Int) (s : Bool) (h : IsB l v w) (hl : l.length ≤ 1000000) (h0 : -9223372036854775808 ≤ x) (h1 : x ≤ 9223372036854775807) :
    Calls Tryd.prog 26 #[v, .int .i64 x, .bool s] w fun e w' => ∃ v, e = .returned v ∧ IsB (l ++ vput (vint x s)) v w' ∧ Below w.heap.size w w' := by
  obtain ⟨A, c, rfl, h2, h3, h4, h5⟩ := h
  exact (putInt_any A _ c x s l w h2 rfl hl h5 h0 h1).mono fun _ _ h => h.isB
theorem rputInt_isB {l : List UInt8} {v : Value} {w : World} (x : Int) (s : Bool) (h : IsB l v w) (hl : l.length ≤ 1000000) (h0 : -9223372036854775808 ≤ x) (h1 : x ≤ 9223372036854775807) :
    Calls Tryd.prog 32 #[v, .int .i64 x, .bool s] w fun e w' => ∃ v, e = .returned v ∧ IsB (l ++ vput (vint x s)) v w' ∧ Below w.heap.size w w' := by
  obtain ⟨A, c, rfl, h2, h3, h4, h5⟩ := h
  exact (rputInt_any A _ c x s l w h2 rfl hl h5 h0 h1).mono fun _ _ h => h.isB
theorem putInt_isO {l : List UInt8} {v : Value} {w : World} (x : Int) (s : Bool) (h : IsB l v w) (hl : l.length ≤ 1000000) (h0 : -9223372036854775808 ≤ x) (h1 : x ≤ 9223372036854775807) :
    Calls Tryd.prog 26 #[v, .int .i64 x, .bool s] w (RetOwn w (l ++ vput (vint x s))) := by
  obtain ⟨A, c, rfl, h2, h3, h4, h5⟩ := h
  exact putInt_own A _ c x s l w h2 rfl hl h5 h0 h1
theorem rputInt_isO {l : List UInt8} {v : Value} {w : World} (x : Int) (s : Bool) (h : IsB l v w) (hl : l.length ≤ 1000000) (h0 : -9223372036854775808 ≤ x) (h1 : x ≤ 9223372036854775807) :
    Calls Tryd.prog 32 #[v, .int .i64 x, .bool s] w (RetOwn w (l ++ vput (vint x s))) := by
  obtain ⟨A, c, rfl, h2, h3, h4, h5⟩ := h
  exact rputInt_own A _ c x s l w h2 rfl hl h5 h0 h1
end Go.Proofs.YtchgpgnipmmflaaDoor

/- The contract of layer 9's reference's Put. -/







namespace Go.Proofs.YtchgpgnipmmflaaDoor

open Go.RowKit

theorem gall_snoc (us : List Nat) (u : Nat) : gall (us ++ [u]) = (gall us && u == (us ++ [u]).headD 0) := by
  unfold gall
  rw [List.all_append]
  cases us with
  | nil => simp
  | cons a t => simp
def TPutRel (l : List Int) (f : Bool) (w : World) (v same i : Value) (wr : World) : Prop :=
  ∃ (j : Nat) (us : List Nat), j + 1 ≤ l.length ∧ i = .int .i64 ((j + 1 : Nat) : Int) ∧ gsizes l f j = some us ∧ same = .bool (gall us) ∧ wr.ownsRow w.heap.size 23 1 v j (us.map uv) ∧ Below w.heap.size w wr
theorem rdiff9_q (a b : Int) (u : Nat) (d o : Bool) (w : World) (ha : inInt a) (hb : inInt b) (h : gdiff a b = (u, d, o)) : Calls Tryd.prog 10 #[.int .i64 a, .int .i64 b] w fun e w' => e = .returned (.tuple #[.int .u64 (u : Int), .bool d, .bool o]) ∧ w' = w := by
  refine (rdiff9_any a b w ha hb).mono ?_
  rintro e w' ⟨h1, h2⟩
  rw [h] at h1
  exact ⟨h1, h2.symm⟩
def Low63 (u : Nat) : Prop := ∃ b : Int, b = 9223372036854775808 ∧ (u : Int) < b
theorem Low63.lt {u : Nat} (h : Low63 u) : (u : Int) < 9223372036854775808 := by obtain ⟨b, rfl, h⟩ := h; exact h
theorem vint_64 {x : Int} {s : Bool} (h : inInt x) : vint x s < 18446744073709551616 := by
  unfold inInt at h
  unfold vint
  split
  · have := vzig_bd h.1 h.2; omega
  · omega
theorem gat_eq {l : List Int} {f : Bool} {j : Nat} {x y : Int} {u : Nat} {d o : Bool} (hj : j + 1 < l.length) (hx : x = l[j]) (hy : y = l[j + 1]) (h : gdiff x y = (u, d, o)) : gat l f j = if o = true ∧ (u = 0 ∨ d = f) then some u else none := by
  unfold gat gone
  rw [List.getD_eq_getElem?_getD, List.getD_eq_getElem?_getD, List.getElem?_eq_getElem (by omega), List.getElem?_eq_getElem hj]
  simp only [Option.getD_some]
  rw [← hx, ← hy, h]
theorem glay_all {l : List Int} {s : Bool} {us : List Nat} {x0 : Int} {n : Nat} (hn : n = l.length) (hx : l.headD 0 = x0) (h : gall us = true) : glay l s us = dheadN 3 0 n ++ vput (vint x0 s) ++ vput (vint (gfirst l us) true) := by
  unfold glay gtail gnum
  rw [if_pos h, if_pos h, hx, ← hn, List.append_nil]
theorem glay_some {l : List Int} {s : Bool} {us : List Nat} {x0 : Int} {n : Nat} (hn : n = l.length) (hx : l.headD 0 = x0) (h : gall us = false) : glay l s us = dheadN 3 (gcode us.tail) n ++ vput (vint x0 s) ++ vput (vint (gfirst l us) true) ++ bpack us.tail (gwide us.tail) := by
  unfold glay gtail gnum
  rw [if_neg (by rw [h]; decide), if_neg (by rw [h]; decide), hx, ← hn]
set_option maxHeartbeats 4000000 in
set_option maxRecDepth 100000 in
theorem rput9_any (l : List Int) (v : Value) (s : Bool) (w : World) (hv : IsV iv l v w) (hl : ∀ x ∈ l, inInt x) (hb : l.length ≤ 1000000) :
    Calls Tryd.prog 15 #[v, .bool s] w (RetE w (gputE l s)) := by
  have HP := Lib.hid (rplain8_any l v s w hv hl hb)
  have HVV := Lib.hid hv
  obtain ⟨A, c, rfl, hA, hnc, hcm, hlw⟩ := hv
  obtain ⟨n, hn⟩ : ∃ n, n = l.length := ⟨_, rfl⟩
  rw [← hn] at hA hnc hb HP HVV ⊢
  cases hd : dplain l s with
  | none =>
    have hE := Lib.hid (gputE_no (.inl hd))
    have hpe : dplainE l s = ([], 1) := by unfold dplainE; rw [hd]
    rw [hpe] at HP
    clear hn hlw hcm hA hd hpe
    go_enter Tryd.func15, Tryd.ntmps15
    go_wp2_with fail
    refine HP.out.mono ?_
    rintro e w1 ⟨u, rfl, hu, hb1⟩
    obtain ⟨A1, c1, rfl, _⟩ := hu
    go_wp2
    go_ret2
    rw [hE.out]
    exact RetE.nil _ hb1
  | some ps =>
    have hpe : dplainE l s = (ps, 0) := by unfold dplainE; rw [hd]
    rw [hpe] at HP
    by_cases hlen : n < 2 ∨ 512 < n
    · have hE := Lib.hid (gputE_no (l := l) (s := s) (.inr (by omega)))
      clear hn hlw hcm hA hd hpe
      go_enter Tryd.func15, Tryd.ntmps15
      go_wp2_with fail
      refine HP.out.mono ?_
      rintro e w1 ⟨u, rfl, hu, hb1⟩
      obtain ⟨A1, c1, rfl, _⟩ := hu
      rcases hlen with h1 | h2
      · have d1 : decide ((n : Int) < 2) = true := decide_eq_true (by omega)
        go_wp2
        go_ret2
        rw [hE.out]
        exact RetE.nil _ hb1
      · have d1 : decide ((n : Int) < 2) = false := decide_eq_false (by omega)
        have d2 : decide ((512 : Int) < (n : Int)) = true := decide_eq_true (by omega)
        go_wp2
        go_ret2
        rw [hE.out]
        exact RetE.nil _ hb1
    · have d1 : decide ((n : Int) < 2) = false := decide_eq_false (by omega)
      have d2 : decide ((512 : Int) < (n : Int)) = false := decide_eq_false (by omega)
      have hE : Hid (∀ us, gsizes l (gfalls l) (l.length - 1) = some us → gputE l s = (glay l s us, 0)) := Lib.hid (fun us h => gputE_some (by rw [hd]; exact fun h => nomatch h) (by omega) (by omega) h)
      have HN := Lib.hid hn
      have HL := Lib.hid hl
      have hn2 : 2 ≤ n := by omega
      have hn5 : n ≤ 512 := by omega
      -- the first two numbers
      obtain ⟨ad, rfl, had, hcell0⟩ := HVV.out.at (k := 0) (by omega)
      obtain ⟨_, hAd, _, hcell1⟩ := HVV.out.at (k := 1) (by omega)
      injection hAd with hAd
      subst hAd
      obtain ⟨x0, hx0⟩ : ∃ x, x = l[0] := ⟨_, rfl⟩
      obtain ⟨x1, hx1⟩ : ∃ x, x = l[1] := ⟨_, rfl⟩
      rw [← hx0] at hcell0
      rw [← hx1] at hcell1
      have e0 : ad.add 0 = ad := by simp [Addr.add]
      have e1 : ad.add 1 = ⟨ad.block, ad.off + 1, none⟩ := by simp [Addr.add]
      have HLT := Lib.hid had
      have HX0 := Lib.hid (show inInt x0 by rw [hx0]; exact hl _ (List.getElem_mem _))
      have HH : Hid (l.headD 0 = x0) := Lib.hid (by rw [hx0]; cases l with | nil => simp at hn; omega | cons a t => rfl)
      obtain ⟨f, hf⟩ : ∃ f, f = gfalls l := ⟨_, rfl⟩
      have df : decide (x1 < x0) = f := by
        rw [hf]
        unfold gfalls
        rw [List.getD_eq_getElem?_getD, List.getD_eq_getElem?_getD, List.getElem?_eq_getElem (by omega), List.getElem?_eq_getElem (by omega)]
        simp only [Option.getD_some]
        rw [← hx0, ← hx1]
      rw [← hf] at hE
      have HF := Lib.hid hf
      clear hn hlw hcm hA hd hpe hlen hx0 hx1 hl hf
      go_enter Tryd.func15, Tryd.ntmps15
      go_wp2_with fail
      refine HP.out.mono ?_
      rintro e w1 ⟨u, rfl, hu, hb1⟩
      obtain ⟨A1, c1, rfl, _⟩ := hu
      have hbA : Below w1.heap.size w1 (w1.alloc (.cells #[] 23)) := (Below.refl _ _).alloc (Nat.le_refl _) _
      have hc0 : (w1.alloc (.cells #[] 23)).cell? ad = some (.int .i64 x0) := by
        rw [e0] at hcell0
        exact ((hb1.trans (hbA.mono hb1.size)).cell had).trans hcell0
      have hc1 : (w1.alloc (.cells #[] 23)).cell? ⟨ad.block, ad.off + 1, none⟩ = some (.int .i64 x1) := by
        rw [e1] at hcell1
        exact ((hb1.trans (hbA.mono hb1.size)).cell (p := ⟨ad.block, ad.off + 1, none⟩) had).trans hcell1
      have HC0 : Hid (w.cell? ad = some (.int .i64 x0)) := Lib.hid (by rw [e0] at hcell0; exact hcell0)
      have E0 := Lib.hid e0
      have hn1 : (1 : Int) < (n : Int) := by omega
      have hn0 : (0 : Int) < (n : Int) := by omega
      clear hcell0 hcell1 e0 e1
      go_wp2
      go_quiet (fail)
      obtain ⟨w2, hw2⟩ : ∃ w2, w2 = (w1.alloc (.cells #[] 23)).drewN nq := ⟨_, rfl⟩
      have hst : TPutRel l f w1 (.slice (some ⟨w1.heap.size, 0, none⟩) 0 0) (.bool true) (.int .i64 1) w2 := ⟨0, [], by have := HN.out; omega, rfl, rfl, rfl, by rw [hw2]; exact own_drewN (own_made w1 _) nq, by rw [hw2]; exact below_drewN hbA nq⟩
      rw [← hw2]
      have HB1 := Lib.hid hb1
      have HST := Lib.hid hst
      clear hst hw2 hc0 hc1 hb1 hbA
      go_wp2
      go_loopw [8, 10, 11] (TPutRel l f w1) (fun _ _ i _ => n - (intOf i).toNat)
      case atStart => exact HST.out
      case round =>
        obtain ⟨j, us, hj, rfl, hus, rfl, hown, hbr⟩ := hrel
        have hjn : j + 1 ≤ n := by have := HN.out; omega
        have hul := gsizes_len hus
        have HUS := Lib.hid hus
        have HUL := Lib.hid hul
        have HBR := Lib.hid (below_then HB1.out hbr)
        have hz := hbr.size
        have HTT := Lib.hid HST
        clear hus hul
        by_cases hlt : j + 1 < n
        · have hl1 : j + 1 < l.length := by have := HN.out; omega
          obtain ⟨_, hAd, _, hcx⟩ := (HVV.out.below HBR.out).at (k := j) (by omega)
          injection hAd with hAd
          subst hAd
          obtain ⟨_, hAd, _, hcy⟩ := (HVV.out.below HBR.out).at (k := j + 1) hl1
          injection hAd with hAd
          subst hAd
          obtain ⟨x, hx⟩ : ∃ x, x = l[j] := ⟨_, rfl⟩
          obtain ⟨y, hy⟩ : ∃ y, y = l[j + 1] := ⟨_, rfl⟩
          have hxi : inInt x := by rw [hx]; exact HL.out _ (List.getElem_mem _)
          have hyi : inInt y := by rw [hy]; exact HL.out _ (List.getElem_mem _)
          obtain ⟨u, d, o, hg⟩ : ∃ u d o, gdiff x y = (u, d, o) := ⟨_, _, _, rfl⟩
          have hga := gat_eq (f := f) hl1 hx hy hg
          have hu64 : (u : Int) < 9223372036854775808 := by have := gdiff_lt x y; rw [hg] at this; exact this
          replace hcx : wr.cell? (ad.add j) = some (.int .i64 x) := by rw [hcx, hx]; rfl
          replace hcy : wr.cell? (ad.add (j + 1)) = some (.int .i64 y) := by rw [hcy, hy]; rfl
          have hlt2 : ((j + 1 : Nat) : Int) < (n : Int) := by omega
          have hltj : (j : Int) < (n : Int) := by omega
          have hjw : IntKind.i64.wrap (j : Int) = (j : Int) := by rw [IntKind.wrap_i64]; omega
          have hjj : ((j + 1 : Nat) : Int) - 1 = (j : Int) := by omega
          have HD := Lib.hid (fun W => rdiff9_q x y u d o W hxi hyi hg)
          have HQ := Lib.hid (fun m => Calls.quiet_of_same (n := m) (w := wr) (HD.out (wr.drewN m)))
          have HGA := Lib.hid hga
          have HU64 := Lib.hid hu64
          obtain ⟨J, hJ⟩ : ∃ J, J = j + 1 := ⟨_, rfl⟩
          rw [← hJ] at hcy hlt2 hjj ⊢
          have HJ := Lib.hid hJ
          clear hx hy hxi hyi hg hga hu64 hJ
          go_wp2
          go_quiet ((go_at_call 10; exact HQ.out _))
          obtain ⟨w4, hw4⟩ : ∃ w4, w4 = wr.drewN nq := ⟨_, rfl⟩
          rw [← hw4]
          have hown4 : w4.ownsRow w1.heap.size 23 1 u8 j (us.map uv) := by rw [hw4]; exact own_drewN hown nq
          have hb4 : Below w1.heap.size w1 w4 := by rw [hw4]; exact below_drewN hbr nq
          clear hw4 hown hbr hz hcx hcy
          have hz := hb4.size
          by_cases hgo : o = true ∧ (u = 0 ∨ d = f)
          · have hgat : Hid (gat l f j = some u) := Lib.hid (by rw [HGA.out, if_pos hgo])
            obtain ⟨rfl, hud⟩ := hgo
            have hcase : (decide (0 < u) = false) ∨ (decide (0 < u) = true ∧ f = d) := by
              rcases Nat.eq_zero_or_pos u with h | h
              · exact .inl (decide_eq_false (by omega))
              · exact .inr ⟨decide_eq_true (by omega), by rcases hud with h2 | h2; omega; exact h2.symm⟩
            obtain ⟨T, hT⟩ : ∃ T, T = gall (us ++ [u]) := ⟨_, rfl⟩
            obtain ⟨z, hzz⟩ : ∃ z, z = (us ++ [u]).headD 0 := ⟨_, rfl⟩
            have hTT : T = (gall us && u == z) := by rw [hT, gall_snoc, hzz]
            have HT := Lib.hid hT
            have HZ := Lib.hid hzz
            have hji : (j : Int) + 1 = (J : Int) := by have := HJ.out; omega
            have hul : us.length = j := HUL.out
            clear hT hzz hud hji
            rcases hcase with hd0 | ⟨hd0, rfl⟩
            all_goals
              go_wp2_with (at_builtin; refine wpList_push elemU rfl _ _ rfl w1.heap.size _ _ _ (uv u) w4 w1 rfl rfl rfl rfl hown4 hb4 hz (by omega) (by omega) ?_)
              intro v5 w5 hown5 hb5 _ _
              have hown6 : w5.ownsRow w1.heap.size 23 1 v5 J ((us ++ [u]).map uv) := by
                rw [List.map_append, List.map_singleton, HJ.out]
                exact hown5
              obtain ⟨B5, c5, rfl, hnc5, hcm5, _, hl5, _⟩ := own_shape hown6
              have hI5 : IsV uv (us ++ [u]) (.slice B5 J c5) w5 := isV_own hown6
              obtain ⟨b5, rfl, hb5', hc5⟩ := hI5.at (k := 0) (by simp)
              have hcz : w5.cell? b5 = some (.int .u64 (z : Int)) := by
                have e : b5.add 0 = b5 := by simp [Addr.add]
                rw [e] at hc5
                rw [hc5, HZ.out]
                congr 1
                cases us <;> rfl
              have hrel : TPutRel l f w1 (.slice (some b5) J c5) (.bool T) (.int .i64 ((J : Int) + 1)) w5 :=
                ⟨J, us ++ [u], by have := HJ.out; omega, by rw [Int.natCast_add]; rfl, by rw [HJ.out]; exact gsizes_succ HUS.out hgat.out, by rw [HT.out], hown6, hb5⟩
              have HREL := Lib.hid hrel
              have hJ0 : (0 : Int) < (J : Int) := by have := HJ.out; omega
              have hJw : IntKind.i64.wrap ((J : Int) + 1) = (J : Int) + 1 := by rw [IntKind.wrap_i64]; omega
              clear hown5 hown6 hI5 hc5 hb5 hb5' hrel hown4 hl5 hul
              cases hga : gall us with
              | false =>
                rw [hga, Bool.false_and] at hTT
                subst hTT
                go_wp2
                go_roundw
                case rel => exact HREL.out
                case measure => simp [intOf]; have := HJ.out; omega
              | true =>
                rw [hga, Bool.true_and] at hTT
                have hTi : ((u : Int) == (z : Int)) = T := by rw [hTT, Bool.eq_iff_iff, beq_iff_eq, beq_iff_eq]; omega
                clear hTT
                go_wp2
                go_roundw
                case rel => exact HREL.out
                case measure => simp [intOf]; have := HJ.out; omega
          · have hgat : gat l f j = none := by rw [HGA.out, if_neg hgo]
            have hE2 : Hid (gputE l s = ([], 1)) := Lib.hid (gputE_none (gsizes_none (k := j) (by have := HN.out; omega) (by rw [← HF.out]; exact hgat)))
            have hcase : o = false ∨ (o = true ∧ decide (0 < u) = true ∧ ((d = true ∧ f = false) ∨ (d = false ∧ f = true))) := by
              cases o with
              | false => exact .inl rfl
              | true =>
                refine .inr ⟨rfl, ?_, ?_⟩
                · exact decide_eq_true (by rcases Nat.eq_zero_or_pos u with h | h; exact absurd ⟨rfl, .inl h⟩ hgo; omega)
                · cases d <;> cases f <;> first | exact .inl ⟨rfl, rfl⟩ | exact .inr ⟨rfl, rfl⟩ | exact absurd ⟨rfl, .inr rfl⟩ hgo
            have HB4 := Lib.hid (below_then HB1.out hb4)
            clear hgat hgo hown4 hb4
            rcases hcase with rfl | ⟨rfl, hd0, ⟨rfl, rfl⟩ | ⟨rfl, rfl⟩⟩
            all_goals
              go_wp2
              go_ret2
              rw [hE2.out]
              exact RetE.nil _ HB4.out
        · have hjn' : n = j + 1 := by omega
          have hE2 : Hid (gputE l s = (glay l s us, 0)) := Lib.hid (hE.out us (by rw [← HN.out, hjn', Nat.add_sub_cancel]; exact HUS.out))
          have H64 : Hid (∀ u ∈ us, u < 2 ^ 64) := Lib.hid (gsizes_64 HUS.out)
          obtain ⟨u0, ut, hu0⟩ : ∃ u0 ut, us = u0 :: ut := by
            cases us with
            | nil => have := HUL.out; simp at this; omega
            | cons a t => exact ⟨a, t, rfl⟩
          have hu0b : (u0 : Int) < 9223372036854775808 := gsizes_lt HUS.out u0 (by rw [hu0]; exact List.mem_cons_self)
          have hI8 : IsV uv us u8 wr := isV_own hown
          obtain ⟨B8, n8, c8, rfl⟩ := hI8.shape
          obtain ⟨hn8, _, hnc8, hcm8, _⟩ := hI8.parts
          obtain rfl : n8 = j := by rw [← hn8]; exact HUL.out
          obtain ⟨b8, rfl, hb8, hc8⟩ := hI8.at (k := 0) (by rw [hu0]; simp)
          have hcz : wr.cell? b8 = some (.int .u64 (u0 : Int)) := by
            have e : b8.add 0 = b8 := by simp [Addr.add]
            rw [e] at hc8
            rw [hc8]
            congr 1
            subst hu0
            rfl
          have hw0 : IntKind.i64.wrap (u0 : Int) = (u0 : Int) := by rw [IntKind.wrap_i64]; omega
          have hw1 : IntKind.i64.wrap (-(u0 : Int)) = -(u0 : Int) := by rw [IntKind.wrap_i64]; omega
          have hgf : gfirst l us = if f = true then -(u0 : Int) else (u0 : Int) := by
            unfold gfirst
            rw [← HF.out, hu0]
            rfl
          have hgi : inInt (gfirst l us) := by
            rw [hgf]
            unfold inInt
            split <;> omega
          obtain ⟨D, hD⟩ : ∃ D, D = gfirst l us := ⟨_, rfl⟩
          rw [← hD] at hgf hgi
          have HD := Lib.hid hD
          have HGI := Lib.hid hgi
          have HI8 := Lib.hid hI8
          have hj0 : (0 : Int) < (n8 : Int) := by omega
          have hltn : ¬ ((n8 + 1 : Nat) : Int) < (n : Int) := by omega
          obtain ⟨t8, ht8, hT8⟩ := fromV_named elemU (k := 1) (by omega) hI8
          have ht8' : ∀ W, (Instr.sliceAt 59 (.slice (some b8) n8 c8) (some (.int .i64 1)) none none).run Tryd.prog W = .ok t8 W := ht8
          rw [show us.drop 1 = us.tail from List.drop_one] at hT8
          have HT8 := Lib.hid hT8
          have HB8 := Lib.hid (below_then HB1.out hbr)
          have hult : us.tail.length ≤ 512 := by rw [List.length_tail, HUL.out]; omega
          have HULT := Lib.hid hult
          have hn81 : n8 + 1 ≤ n := by omega
          have HU0B : Low63 u0 := ⟨_, rfl, hu0b⟩
          clear hu0b hI8 hn8 hcm8 hb8 hc8 hgi hD ht8 hT8 hown hu0 hult hjn'
          cases hga : gall us with
          | true =>
            have HGL := Lib.hid (glay_all (s := s) HN.out HH.out hga)
            have HHD := Lib.hid (fun X => rhead8_any 3 0 (n : Int) X)
            rw [show (3 : Int) = ((3 : Nat) : Int) from rfl, show (0 : Int) = ((0 : Nat) : Int) from rfl, dhead_in (by omega) (by omega) (by omega) hn5] at HHD
            clear hga
            cases f with
            | true =>
              rw [if_pos rfl] at hgf
              rw [HD.out] at hgf
              have HGF := Lib.hid hgf
              clear hgf
              go_wp2
              refine wp_region_list [.is (.int .i64 0), .is (.slice (some ad) n c), .is (.int .i64 (n : Int)), .bytes (dheadN 3 0 n), .is (.slice (some ad) n c), .is (.pointer (some ad)), .is (.int .i64 x0), .is (.bool s), .bytes (dheadN 3 0 n ++ vput (vint x0 s)), .bytes (dheadN 3 0 n ++ vput (vint x0 s))] [some 106, some 107, some 108, some 109, some 110, some 111, some 112, some 113, some 114, some 18] (by kernel_rfl) (by kernel_rfl) (by kernel_rfl) rfl ⟨?_, ?_, ?_, ?_, ?_, ?_, ?_, ?_, ?_, ?_, trivial⟩ ?_
              · intro ρ W1 hb1 H
                exact gives_move rfl (H.old 16 _ (by kernel_rfl) rfl) ⟨rfl, Below.refl _ _⟩
              · intro ρ W1 hb1 H
                exact gives_move rfl (H.old 0 _ (by kernel_rfl) rfl) ⟨rfl, Below.refl _ _⟩
              · intro ρ W1 hb1 H
                exact gives_len Tryd.underlying30 rfl (H.new 107 1 (by kernel_rfl)) ⟨rfl, Below.refl _ _⟩
              · intro ρ W1 hb1 H
                have e1 : ρ (.tmp 106) = .int .i64 0 := H.new 106 0 (by kernel_rfl)
                have e2 : ρ (.tmp 108) = .int .i64 (n : Int) := H.new 108 2 (by kernel_rfl)
                refine gives_call rfl (fun _ _ => by kernel_rfl) (H.func _) (args := #[.int .i64 3, .int .i64 0, .int .i64 (n : Int)]) (by simp [H.const, e1, e2]) ?_
                exact (HHD.out W1).mono fun _ _ ⟨v, h1, h2, h3⟩ => ⟨v, h1, isB_own h2, h3⟩
              · intro ρ W1 hb1 H
                exact gives_move rfl (H.old 0 _ (by kernel_rfl) rfl) ⟨rfl, Below.refl _ _⟩
              · intro ρ W1 hb1 H
                exact gives_index (k := 0) elemI rfl (H.new 110 4 (by kernel_rfl)) (H.const _) (by omega) ⟨by rw [E0.out]; rfl, Below.refl _ _⟩
              · intro ρ W1 hb1 H
                exact gives_load rfl (H.new 111 5 (by kernel_rfl)) Tryd.underlying3 rfl ((hb1.cell (Nat.lt_of_lt_of_le HLT.out HB8.out.size)).trans ((HB8.out.cell HLT.out).trans HC0.out)) ⟨rfl, Below.refl _ _⟩
              · intro ρ W1 hb1 H
                exact gives_move rfl (H.old 1 _ (by kernel_rfl) rfl) ⟨rfl, Below.refl _ _⟩
              · intro ρ W1 hb1 H
                have e0 : IsB (dheadN 3 0 n) (ρ (.tmp 109)) W1 := H.new 109 3 (by kernel_rfl)
                have e1 : ρ (.tmp 112) = .int .i64 x0 := H.new 112 6 (by kernel_rfl)
                have e2 : ρ (.tmp 113) = .bool s := H.new 113 7 (by kernel_rfl)
                refine gives_call rfl (fun _ _ => by kernel_rfl) (H.func _) (args := #[ρ (.tmp 109), .int .i64 x0, .bool s]) (by simp [e1, e2]) ?_
                exact (rputInt_isB x0 s e0 (by rw [dheadN_len]; omega) HX0.out.1 HX0.out.2).mono fun _ _ h => h
              · intro ρ W1 hb1 H
                exact gives_assign rfl rfl ⟨H.new 114 8 (by kernel_rfl), Below.refl _ _⟩
              · intro vs W1 hb1 hfs
                have f9 : IsB (dheadN 3 0 n ++ vput (vint x0 s)) (vs 9) W1 := hfs 9 (by decide)
                clear hfs
                simp only [putAll, Nat.zero_add, Nat.reduceAdd]
                generalize vs 0 = z0
                generalize vs 1 = z1
                generalize vs 2 = z2
                generalize vs 3 = z3
                generalize vs 4 = z4
                generalize vs 5 = z5
                generalize vs 6 = z6
                generalize vs 7 = z7
                generalize vs 8 = z8
                generalize vs 9 = z9 at f9 ⊢
                simp only [Act.put, List.setIfInBounds_toArray, List.set_cons_succ, List.set_cons_zero]
                have HO := Lib.hid f9
                have HBa := Lib.hid (below_then HB8.out hb1)
                clear f9
                have hlen : (dheadN 3 0 n ++ vput (vint x0 s)).length ≤ 1000 := by rw [List.length_append, dheadN_len]; have := vput_len_10 (x := vint x0 s) (vint_64 HX0.out); omega
                have HLN := Lib.hid hlen
                clear hlen
                go_wp2_with fail
                refine (rputInt_isO (-(u0 : Int)) true HO.out (by have := HLN.out; omega) (by have := HU0B.lt; omega) (by have := HU0B.lt; omega)).mono ?_
                rintro e w6 ⟨v6, rfl, hown6, hb6⟩
                have HB6 := Lib.hid (below_then HBa.out hb6)
                have HI6 := Lib.hid (isB_own hown6)
                clear hown6 hb6
                go_wp2
                go_ret2
                rw [hE2.out, HGL.out, HGF.out]
                exact ⟨_, rfl, HI6.out, HB6.out⟩
            | false =>
              rw [if_neg (by decide)] at hgf
              rw [HD.out] at hgf
              have HGF := Lib.hid hgf
              clear hgf
              go_wp2
              refine wp_region_list [.is (.int .i64 0), .is (.slice (some ad) n c), .is (.int .i64 (n : Int)), .bytes (dheadN 3 0 n), .is (.slice (some ad) n c), .is (.pointer (some ad)), .is (.int .i64 x0), .is (.bool s), .bytes (dheadN 3 0 n ++ vput (vint x0 s)), .bytes (dheadN 3 0 n ++ vput (vint x0 s))] [some 106, some 107, some 108, some 109, some 110, some 111, some 112, some 113, some 114, some 18] (by kernel_rfl) (by kernel_rfl) (by kernel_rfl) rfl ⟨?_, ?_, ?_, ?_, ?_, ?_, ?_, ?_, ?_, ?_, trivial⟩ ?_
              · intro ρ W1 hb1 H
                exact gives_move rfl (H.old 16 _ (by kernel_rfl) rfl) ⟨rfl, Below.refl _ _⟩
              · intro ρ W1 hb1 H
                exact gives_move rfl (H.old 0 _ (by kernel_rfl) rfl) ⟨rfl, Below.refl _ _⟩
              · intro ρ W1 hb1 H
                exact gives_len Tryd.underlying30 rfl (H.new 107 1 (by kernel_rfl)) ⟨rfl, Below.refl _ _⟩
              · intro ρ W1 hb1 H
                have e1 : ρ (.tmp 106) = .int .i64 0 := H.new 106 0 (by kernel_rfl)
                have e2 : ρ (.tmp 108) = .int .i64 (n : Int) := H.new 108 2 (by kernel_rfl)
                refine gives_call rfl (fun _ _ => by kernel_rfl) (H.func _) (args := #[.int .i64 3, .int .i64 0, .int .i64 (n : Int)]) (by simp [H.const, e1, e2]) ?_
                exact (HHD.out W1).mono fun _ _ ⟨v, h1, h2, h3⟩ => ⟨v, h1, isB_own h2, h3⟩
              · intro ρ W1 hb1 H
                exact gives_move rfl (H.old 0 _ (by kernel_rfl) rfl) ⟨rfl, Below.refl _ _⟩
              · intro ρ W1 hb1 H
                exact gives_index (k := 0) elemI rfl (H.new 110 4 (by kernel_rfl)) (H.const _) (by omega) ⟨by rw [E0.out]; rfl, Below.refl _ _⟩
              · intro ρ W1 hb1 H
                exact gives_load rfl (H.new 111 5 (by kernel_rfl)) Tryd.underlying3 rfl ((hb1.cell (Nat.lt_of_lt_of_le HLT.out HB8.out.size)).trans ((HB8.out.cell HLT.out).trans HC0.out)) ⟨rfl, Below.refl _ _⟩
              · intro ρ W1 hb1 H
                exact gives_move rfl (H.old 1 _ (by kernel_rfl) rfl) ⟨rfl, Below.refl _ _⟩
              · intro ρ W1 hb1 H
                have e0 : IsB (dheadN 3 0 n) (ρ (.tmp 109)) W1 := H.new 109 3 (by kernel_rfl)
                have e1 : ρ (.tmp 112) = .int .i64 x0 := H.new 112 6 (by kernel_rfl)
                have e2 : ρ (.tmp 113) = .bool s := H.new 113 7 (by kernel_rfl)
                refine gives_call rfl (fun _ _ => by kernel_rfl) (H.func _) (args := #[ρ (.tmp 109), .int .i64 x0, .bool s]) (by simp [e1, e2]) ?_
                exact (rputInt_isB x0 s e0 (by rw [dheadN_len]; omega) HX0.out.1 HX0.out.2).mono fun _ _ h => h
              · intro ρ W1 hb1 H
                exact gives_assign rfl rfl ⟨H.new 114 8 (by kernel_rfl), Below.refl _ _⟩
              · intro vs W1 hb1 hfs
                have f9 : IsB (dheadN 3 0 n ++ vput (vint x0 s)) (vs 9) W1 := hfs 9 (by decide)
                clear hfs
                simp only [putAll, Nat.zero_add, Nat.reduceAdd]
                generalize vs 0 = z0
                generalize vs 1 = z1
                generalize vs 2 = z2
                generalize vs 3 = z3
                generalize vs 4 = z4
                generalize vs 5 = z5
                generalize vs 6 = z6
                generalize vs 7 = z7
                generalize vs 8 = z8
                generalize vs 9 = z9 at f9 ⊢
                simp only [Act.put, List.setIfInBounds_toArray, List.set_cons_succ, List.set_cons_zero]
                have HO := Lib.hid f9
                have HBa := Lib.hid (below_then HB8.out hb1)
                clear f9
                have hlen : (dheadN 3 0 n ++ vput (vint x0 s)).length ≤ 1000 := by rw [List.length_append, dheadN_len]; have := vput_len_10 (x := vint x0 s) (vint_64 HX0.out); omega
                have HLN := Lib.hid hlen
                clear hlen
                go_wp2_with fail
                refine (rputInt_isO (u0 : Int) true HO.out (by have := HLN.out; omega) (by have := HU0B.lt; omega) (by have := HU0B.lt; omega)).mono ?_
                rintro e w6 ⟨v6, rfl, hown6, hb6⟩
                have HB6 := Lib.hid (below_then HBa.out hb6)
                have HI6 := Lib.hid (isB_own hown6)
                clear hown6 hb6
                go_wp2
                go_ret2
                rw [hE2.out, HGL.out, HGF.out]
                exact ⟨_, rfl, HI6.out, HB6.out⟩
          | false =>
            have H64t : Hid (∀ u ∈ us.tail, u < 2 ^ 64) := Lib.hid fun u hu => H64.out u (List.mem_of_mem_tail hu)
            have HGL := Lib.hid (glay_some (s := s) HN.out HH.out hga)
            obtain ⟨g1, g2, g3, g4, g5, g6, g7, g8⟩ := gwide_int H64t.out
            have hroom := gwide_room H64t.out
            obtain ⟨G, hG⟩ : ∃ G, G = gwide us.tail := ⟨_, rfl⟩
            obtain ⟨C, hC⟩ : ∃ C, C = gcode us.tail := ⟨_, rfl⟩
            rw [← hG, ← hC] at HGL
            rw [← hG] at g1 g2 g4 g5 hroom
            rw [← hC] at g2 g6 g7
            have HHD := Lib.hid (fun X => rhead8_any 3 (C : Int) (n : Int) X)
            rw [show (3 : Int) = ((3 : Nat) : Int) from rfl, dhead_in (by omega) g7 (by omega) hn5] at HHD
            have HPKE := Lib.hid (show packsAny us.tail (G : Int) = (bpack us.tail G, 0) by rw [packsAny_in _ _ g5, packs_ok hroom])
            obtain ⟨M, hM⟩ : ∃ M, M = wmost us.tail := ⟨_, rfl⟩
            rw [← hM] at g1
            obtain ⟨X, hX⟩ : ∃ X, X = max 2 M := ⟨_, rfl⟩
            rw [← hX] at g1
            have hmax : ∀ (ts : Array TypeId) (t : TypeId) (W : World), (Builtin.max_ ts t #[.int .i64 2, .int .i64 (M : Int)]).run Tryd.prog W = .ok (.int .i64 (X : Int)) W := fun ts t W => by
              rw [run_max_int2]
              congr 2
              split <;> omega
            have HCL := Lib.hid (fun W => rclosest_any (X : Int) W)
            rw [g1] at HCL
            have HCD := Lib.hid (fun W => rcode_any (G : Int) W)
            rw [g2] at HCD
            rw [hM] at hmax
            clear hga g1 g2 g3 g6 g7 g8 hroom hG hC hM hX
            cases f with
            | true =>
              rw [if_pos rfl] at hgf
              rw [HD.out] at hgf
              have HGF := Lib.hid hgf
              clear hgf
              go_wp2_with (first | (go_at_call 30; refine (rmost_is HT8.out (by have := HULT.out; omega) H64t.out).mono ?_; rintro e w' ⟨rfl, rfl⟩) | (go_at_call 29; refine (HCL.out _).mono ?_; rintro e w' ⟨rfl, rfl⟩) | (go_at_call 31; refine (HCD.out _).mono ?_; rintro e w' ⟨rfl, rfl⟩))
              refine wp_region_list [.is (.int .i64 (C : Int)), .is (.slice (some ad) n c), .is (.int .i64 (n : Int)), .bytes (dheadN 3 C n), .is (.slice (some ad) n c), .is (.pointer (some ad)), .is (.int .i64 x0), .is (.bool s), .bytes (dheadN 3 C n ++ vput (vint x0 s)), .bytes (dheadN 3 C n ++ vput (vint x0 s))] [some 106, some 107, some 108, some 109, some 110, some 111, some 112, some 113, some 114, some 18] (by kernel_rfl) (by kernel_rfl) (by kernel_rfl) rfl ⟨?_, ?_, ?_, ?_, ?_, ?_, ?_, ?_, ?_, ?_, trivial⟩ ?_
              · intro ρ W1 hb1 H
                exact gives_move rfl (H.old 16 _ (by kernel_rfl) rfl) ⟨rfl, Below.refl _ _⟩
              · intro ρ W1 hb1 H
                exact gives_move rfl (H.old 0 _ (by kernel_rfl) rfl) ⟨rfl, Below.refl _ _⟩
              · intro ρ W1 hb1 H
                exact gives_len Tryd.underlying30 rfl (H.new 107 1 (by kernel_rfl)) ⟨rfl, Below.refl _ _⟩
              · intro ρ W1 hb1 H
                have e1 : ρ (.tmp 106) = .int .i64 (C : Int) := H.new 106 0 (by kernel_rfl)
                have e2 : ρ (.tmp 108) = .int .i64 (n : Int) := H.new 108 2 (by kernel_rfl)
                refine gives_call rfl (fun _ _ => by kernel_rfl) (H.func _) (args := #[.int .i64 3, .int .i64 (C : Int), .int .i64 (n : Int)]) (by simp [H.const, e1, e2]) ?_
                exact (HHD.out W1).mono fun _ _ ⟨v, h1, h2, h3⟩ => ⟨v, h1, isB_own h2, h3⟩
              · intro ρ W1 hb1 H
                exact gives_move rfl (H.old 0 _ (by kernel_rfl) rfl) ⟨rfl, Below.refl _ _⟩
              · intro ρ W1 hb1 H
                exact gives_index (k := 0) elemI rfl (H.new 110 4 (by kernel_rfl)) (H.const _) (by omega) ⟨by rw [E0.out]; rfl, Below.refl _ _⟩
              · intro ρ W1 hb1 H
                exact gives_load rfl (H.new 111 5 (by kernel_rfl)) Tryd.underlying3 rfl ((hb1.cell (Nat.lt_of_lt_of_le HLT.out HB8.out.size)).trans ((HB8.out.cell HLT.out).trans HC0.out)) ⟨rfl, Below.refl _ _⟩
              · intro ρ W1 hb1 H
                exact gives_move rfl (H.old 1 _ (by kernel_rfl) rfl) ⟨rfl, Below.refl _ _⟩
              · intro ρ W1 hb1 H
                have e0 : IsB (dheadN 3 C n) (ρ (.tmp 109)) W1 := H.new 109 3 (by kernel_rfl)
                have e1 : ρ (.tmp 112) = .int .i64 x0 := H.new 112 6 (by kernel_rfl)
                have e2 : ρ (.tmp 113) = .bool s := H.new 113 7 (by kernel_rfl)
                refine gives_call rfl (fun _ _ => by kernel_rfl) (H.func _) (args := #[ρ (.tmp 109), .int .i64 x0, .bool s]) (by simp [e1, e2]) ?_
                exact (rputInt_isB x0 s e0 (by rw [dheadN_len]; omega) HX0.out.1 HX0.out.2).mono fun _ _ h => h
              · intro ρ W1 hb1 H
                exact gives_assign rfl rfl ⟨H.new 114 8 (by kernel_rfl), Below.refl _ _⟩
              · intro vs W1 hb1 hfs
                have f9 : IsB (dheadN 3 C n ++ vput (vint x0 s)) (vs 9) W1 := hfs 9 (by decide)
                clear hfs
                simp only [putAll, Nat.zero_add, Nat.reduceAdd]
                generalize vs 0 = z0
                generalize vs 1 = z1
                generalize vs 2 = z2
                generalize vs 3 = z3
                generalize vs 4 = z4
                generalize vs 5 = z5
                generalize vs 6 = z6
                generalize vs 7 = z7
                generalize vs 8 = z8
                generalize vs 9 = z9 at f9 ⊢
                simp only [Act.put, List.setIfInBounds_toArray, List.set_cons_succ, List.set_cons_zero]
                have HO := Lib.hid f9
                have HBa := Lib.hid (below_then HB8.out hb1)
                clear f9
                have hlen : (dheadN 3 C n ++ vput (vint x0 s)).length ≤ 1000 := by rw [List.length_append, dheadN_len]; have := vput_len_10 (x := vint x0 s) (vint_64 HX0.out); omega
                have HLN := Lib.hid hlen
                clear hlen
                go_wp2_with fail
                refine (rputInt_isO (-(u0 : Int)) true HO.out (by have := HLN.out; omega) (by have := HU0B.lt; omega) (by have := HU0B.lt; omega)).mono ?_
                rintro e w6 ⟨v6, rfl, hown6, hb6⟩
                have HB6 := Lib.hid (below_then HBa.out hb6)
                have HT6 := Lib.hid (isU_iff.2 ((HT8.out.below hb1).below hb6))
                have HOW := Lib.hid hown6
                have hz6 := hb6.size
                clear hown6
                go_wp2_with fail
                refine (rpack_is (G : Int) HT6.out (by have := HULT.out; omega) H64t.out).mono ?_
                rw [HPKE.out]
                rintro e w7 ⟨v7, rfl, hv7, hb7⟩
                have hown7 := own_below HOW.out hb7
                obtain ⟨A7, n7, c7, rfl⟩ := IsV.shape (f := bv) hv7
                obtain ⟨hn7, hA7, -, -, hl7⟩ := IsV.parts (f := bv) (show IsV bv _ _ _ from hv7)
                have hM7 : ((bpack us.tail G).map bv).length = n7 := by rw [List.length_map]; exact hn7
                have hn7b : n7 ≤ 5000 := by rw [← hn7, bpack_len]; exact Nat.le_trans (bsize_small HULT.out (by omega)) (by omega)
                have HM7 := Lib.hid hM7
                have hbb7 := hb6.trans (hb7.mono hb6.size)
                have hzz7 := hbb7.size
                obtain ⟨K6, hK6⟩ : ∃ K, K = (dheadN 3 C n ++ vput (vint x0 s) ++ vput (vint (-(u0 : Int)) true)).length := ⟨_, rfl⟩
                have hK6b : K6 ≤ 2000 := by rw [hK6, List.length_append]; have := vput_len_10 (x := vint (-(u0 : Int)) true) (vint_64 (show inInt (-(u0 : Int)) from ⟨by have := HU0B.lt; omega, by have := HU0B.lt; omega⟩)); have := HLN.out; omega
                rw [← hK6] at hown7
                have HK6 := Lib.hid hK6
                clear hv7 hb7 hM7 hn7 hb6 hK6
                obtain ⟨xs6, hx6⟩ : ∃ xs, xs = (dheadN 3 C n ++ vput (vint x0 s) ++ vput (vint (-(u0 : Int)) true)).map bv := ⟨_, rfl⟩
                rw [← hx6] at hown7
                have HX6 := Lib.hid hx6
                clear hx6
                go_wp2_with (at_builtin; refine wpList_join elemB rfl _ _ rfl W1.heap.size _ _ _ _ _ _ ((bpack us.tail G).map bv) W1 rfl rfl hA7 HM7.out hl7 (bv_one _) hown7 hbb7 hzz7 (by omega) (by omega) ?_)
                intro v8 w8 hown8 hb8 _ _
                have HI9 : Hid (IsB (dheadN 3 C n ++ vput (vint x0 s) ++ vput (vint (-(u0 : Int)) true) ++ bpack us.tail G) v8 w8) := Lib.hid (isB_own (by rw [List.map_append, ← HX6.out]; exact hown8))
                have HB9 := Lib.hid (below_then HBa.out hb8)
                clear hown8 hb8 hown7 hbb7 hzz7
                go_wp2
                go_ret2
                rw [hE2.out, HGL.out, HGF.out]
                exact ⟨_, rfl, HI9.out, HB9.out⟩
            | false =>
              rw [if_neg (by decide)] at hgf
              rw [HD.out] at hgf
              have HGF := Lib.hid hgf
              clear hgf
              go_wp2_with (first | (go_at_call 30; refine (rmost_is HT8.out (by have := HULT.out; omega) H64t.out).mono ?_; rintro e w' ⟨rfl, rfl⟩) | (go_at_call 29; refine (HCL.out _).mono ?_; rintro e w' ⟨rfl, rfl⟩) | (go_at_call 31; refine (HCD.out _).mono ?_; rintro e w' ⟨rfl, rfl⟩))
              refine wp_region_list [.is (.int .i64 (C : Int)), .is (.slice (some ad) n c), .is (.int .i64 (n : Int)), .bytes (dheadN 3 C n), .is (.slice (some ad) n c), .is (.pointer (some ad)), .is (.int .i64 x0), .is (.bool s), .bytes (dheadN 3 C n ++ vput (vint x0 s)), .bytes (dheadN 3 C n ++ vput (vint x0 s))] [some 106, some 107, some 108, some 109, some 110, some 111, some 112, some 113, some 114, some 18] (by kernel_rfl) (by kernel_rfl) (by kernel_rfl) rfl ⟨?_, ?_, ?_, ?_, ?_, ?_, ?_, ?_, ?_, ?_, trivial⟩ ?_
              · intro ρ W1 hb1 H
                exact gives_move rfl (H.old 16 _ (by kernel_rfl) rfl) ⟨rfl, Below.refl _ _⟩
              · intro ρ W1 hb1 H
                exact gives_move rfl (H.old 0 _ (by kernel_rfl) rfl) ⟨rfl, Below.refl _ _⟩
              · intro ρ W1 hb1 H
                exact gives_len Tryd.underlying30 rfl (H.new 107 1 (by kernel_rfl)) ⟨rfl, Below.refl _ _⟩
              · intro ρ W1 hb1 H
                have e1 : ρ (.tmp 106) = .int .i64 (C : Int) := H.new 106 0 (by kernel_rfl)
                have e2 : ρ (.tmp 108) = .int .i64 (n : Int) := H.new 108 2 (by kernel_rfl)
                refine gives_call rfl (fun _ _ => by kernel_rfl) (H.func _) (args := #[.int .i64 3, .int .i64 (C : Int), .int .i64 (n : Int)]) (by simp [H.const, e1, e2]) ?_
                exact (HHD.out W1).mono fun _ _ ⟨v, h1, h2, h3⟩ => ⟨v, h1, isB_own h2, h3⟩
              · intro ρ W1 hb1 H
                exact gives_move rfl (H.old 0 _ (by kernel_rfl) rfl) ⟨rfl, Below.refl _ _⟩
              · intro ρ W1 hb1 H
                exact gives_index (k := 0) elemI rfl (H.new 110 4 (by kernel_rfl)) (H.const _) (by omega) ⟨by rw [E0.out]; rfl, Below.refl _ _⟩
              · intro ρ W1 hb1 H
                exact gives_load rfl (H.new 111 5 (by kernel_rfl)) Tryd.underlying3 rfl ((hb1.cell (Nat.lt_of_lt_of_le HLT.out HB8.out.size)).trans ((HB8.out.cell HLT.out).trans HC0.out)) ⟨rfl, Below.refl _ _⟩
              · intro ρ W1 hb1 H
                exact gives_move rfl (H.old 1 _ (by kernel_rfl) rfl) ⟨rfl, Below.refl _ _⟩
              · intro ρ W1 hb1 H
                have e0 : IsB (dheadN 3 C n) (ρ (.tmp 109)) W1 := H.new 109 3 (by kernel_rfl)
                have e1 : ρ (.tmp 112) = .int .i64 x0 := H.new 112 6 (by kernel_rfl)
                have e2 : ρ (.tmp 113) = .bool s := H.new 113 7 (by kernel_rfl)
                refine gives_call rfl (fun _ _ => by kernel_rfl) (H.func _) (args := #[ρ (.tmp 109), .int .i64 x0, .bool s]) (by simp [e1, e2]) ?_
                exact (rputInt_isB x0 s e0 (by rw [dheadN_len]; omega) HX0.out.1 HX0.out.2).mono fun _ _ h => h
              · intro ρ W1 hb1 H
                exact gives_assign rfl rfl ⟨H.new 114 8 (by kernel_rfl), Below.refl _ _⟩
              · intro vs W1 hb1 hfs
                have f9 : IsB (dheadN 3 C n ++ vput (vint x0 s)) (vs 9) W1 := hfs 9 (by decide)
                clear hfs
                simp only [putAll, Nat.zero_add, Nat.reduceAdd]
                generalize vs 0 = z0
                generalize vs 1 = z1
                generalize vs 2 = z2
                generalize vs 3 = z3
                generalize vs 4 = z4
                generalize vs 5 = z5
                generalize vs 6 = z6
                generalize vs 7 = z7
                generalize vs 8 = z8
                generalize vs 9 = z9 at f9 ⊢
                simp only [Act.put, List.setIfInBounds_toArray, List.set_cons_succ, List.set_cons_zero]
                have HO := Lib.hid f9
                have HBa := Lib.hid (below_then HB8.out hb1)
                clear f9
                have hlen : (dheadN 3 C n ++ vput (vint x0 s)).length ≤ 1000 := by rw [List.length_append, dheadN_len]; have := vput_len_10 (x := vint x0 s) (vint_64 HX0.out); omega
                have HLN := Lib.hid hlen
                clear hlen
                go_wp2_with fail
                refine (rputInt_isO (u0 : Int) true HO.out (by have := HLN.out; omega) (by have := HU0B.lt; omega) (by have := HU0B.lt; omega)).mono ?_
                rintro e w6 ⟨v6, rfl, hown6, hb6⟩
                have HB6 := Lib.hid (below_then HBa.out hb6)
                have HT6 := Lib.hid (isU_iff.2 ((HT8.out.below hb1).below hb6))
                have HOW := Lib.hid hown6
                have hz6 := hb6.size
                clear hown6
                go_wp2_with fail
                refine (rpack_is (G : Int) HT6.out (by have := HULT.out; omega) H64t.out).mono ?_
                rw [HPKE.out]
                rintro e w7 ⟨v7, rfl, hv7, hb7⟩
                have hown7 := own_below HOW.out hb7
                obtain ⟨A7, n7, c7, rfl⟩ := IsV.shape (f := bv) hv7
                obtain ⟨hn7, hA7, -, -, hl7⟩ := IsV.parts (f := bv) (show IsV bv _ _ _ from hv7)
                have hM7 : ((bpack us.tail G).map bv).length = n7 := by rw [List.length_map]; exact hn7
                have hn7b : n7 ≤ 5000 := by rw [← hn7, bpack_len]; exact Nat.le_trans (bsize_small HULT.out (by omega)) (by omega)
                have HM7 := Lib.hid hM7
                have hbb7 := hb6.trans (hb7.mono hb6.size)
                have hzz7 := hbb7.size
                obtain ⟨K6, hK6⟩ : ∃ K, K = (dheadN 3 C n ++ vput (vint x0 s) ++ vput (vint (u0 : Int) true)).length := ⟨_, rfl⟩
                have hK6b : K6 ≤ 2000 := by rw [hK6, List.length_append]; have := vput_len_10 (x := vint (u0 : Int) true) (vint_64 (show inInt (u0 : Int) from ⟨by have := HU0B.lt; omega, by have := HU0B.lt; omega⟩)); have := HLN.out; omega
                rw [← hK6] at hown7
                have HK6 := Lib.hid hK6
                clear hv7 hb7 hM7 hn7 hb6 hK6
                obtain ⟨xs6, hx6⟩ : ∃ xs, xs = (dheadN 3 C n ++ vput (vint x0 s) ++ vput (vint (u0 : Int) true)).map bv := ⟨_, rfl⟩
                rw [← hx6] at hown7
                have HX6 := Lib.hid hx6
                clear hx6
                go_wp2_with (at_builtin; refine wpList_join elemB rfl _ _ rfl W1.heap.size _ _ _ _ _ _ ((bpack us.tail G).map bv) W1 rfl rfl hA7 HM7.out hl7 (bv_one _) hown7 hbb7 hzz7 (by omega) (by omega) ?_)
                intro v8 w8 hown8 hb8 _ _
                have HI9 : Hid (IsB (dheadN 3 C n ++ vput (vint x0 s) ++ vput (vint (u0 : Int) true) ++ bpack us.tail G) v8 w8) := Lib.hid (isB_own (by rw [List.map_append, ← HX6.out]; exact hown8))
                have HB9 := Lib.hid (below_then HBa.out hb8)
                clear hown8 hb8 hown7 hbb7 hzz7
                go_wp2
                go_ret2
                rw [hE2.out, HGL.out, HGF.out]
                exact ⟨_, rfl, HI9.out, HB9.out⟩
end Go.Proofs.YtchgpgnipmmflaaDoor

/- The contract of layer 9's reference's Take. -/



namespace Go.Proofs.YtchgpgnipmmflaaDoor

open Go.RowKit

theorem rtakeInt_none {l : List UInt8} {v : Value} {w : World} (s : Bool) (h : IsB l v w) (hl : l.length ≤ 1000000) (hn : vtint l s = none) : Calls Tryd.prog 40 #[v, .bool s] w fun e w' => ∃ r, e = .returned (.tuple #[.int .i64 0, r, .int .i64 2]) ∧ Below w.heap.size w w' := by
  refine (rtakeInt_isB s h hl).mono fun e w' h => ?_
  obtain ⟨r, h1, _, h3⟩ := h.parts
  rw [hn] at h1
  exact ⟨r, h1, h3⟩
theorem rtakeInt_some {l r : List UInt8} {v : Value} {w : World} {x : Int} (s : Bool) (h : IsB l v w) (hl : l.length ≤ 1000000) (hn : vtint l s = some (x, r)) : Calls Tryd.prog 40 #[v, .bool s] w fun e w' => ∃ u, e = .returned (.tuple #[.int .i64 x, u, .int .i64 0]) ∧ OwnB w r u w' ∧ Below w.heap.size w w' := by
  refine (rtakeInt_isB s h hl).mono fun e w' h => ?_
  obtain ⟨u, h1, h2, h3⟩ := h.owned
  rw [hn] at h1 h2
  exact ⟨u, h1, h2, h3⟩
theorem vtint_bd {l r : List UInt8} {s : Bool} {x : Int} (h : vtint l s = some (x, r)) : inInt x ∧ r.length ≤ l.length := by
  unfold vtint at h
  cases ht : vtake l with
  | none => rw [ht] at h; cases h
  | some p =>
    obtain ⟨u, q⟩ := p
    rw [ht] at h
    obtain ⟨h1, h2⟩ := vtake_some ht
    have h3 : q.length ≤ l.length := by rw [h1, List.length_append]; omega
    cases s with
    | true =>
      injection h with h
      injection h with h4 h5
      subst h4 h5
      exact ⟨vzag_bd (by omega) (by omega), h3⟩
    | false =>
      dsimp only at h
      split at h
      · cases h
      · injection h with h
        injection h with h4 h5
        subst h4 h5
        exact ⟨⟨by omega, by omega⟩, h3⟩
theorem gwalk_last {s f : Bool} : ∀ {us : List Nat} {x : Int} {ys : List Int}, gwalk s f x us = some ys → inInt x → inInt (glast x ys)
  | [], x, ys, h, hx => by simp [gwalk] at h; subst h; exact hx
  | u :: us, x, ys, h, hx => by
    rw [gwalk] at h
    cases hn : gnext s f x u with
    | none => rw [hn] at h; cases h
    | some y =>
      rw [hn] at h
      dsimp only at h
      cases hw : gwalk s f y us with
      | none => rw [hw] at h; cases h
      | some zs =>
        rw [hw] at h
        simp at h
        subst h
        have hy : inInt y := by
          unfold gnext at hn
          split at hn
          · injection hn with hn; rw [← hn]; exact gstep_bd hx
          · cases hn
        show inInt (glast y zs)
        exact gwalk_last hw hy
theorem gtakeE_head {l : List UInt8} {s : Bool} (h : (dlook l).2.2.2.2 ≠ 0 ∨ (dlook l).1 ≠ 3 ∨ (dlook l).2.2.1 < 2) : gtakeE l s = ([], [], 2) := by unfold gtakeE; rw [if_pos h]; rfl
theorem gtakeE_in {l r : List UInt8} {s : Bool} {c m : Int} (h : dlook l = (3, c, m, r, 0)) (hm : 2 ≤ m) : gtakeE l s = gbody s c m r := by
  unfold gtakeE
  rw [h]
  dsimp only
  rw [if_neg (by omega)]
theorem gbody_none {r : List UInt8} {s : Bool} {c m : Int} (h : vtint r s = none) : gbody s c m r = ([], [], 2) := by unfold gbody; rw [h]; rfl
theorem gbody_none2 {r r1 : List UInt8} {s : Bool} {c m x : Int} (h : vtint r s = some (x, r1)) (h2 : vtint r1 true = none) : gbody s c m r = ([], [], 2) := by unfold gbody; rw [h]; dsimp only; rw [h2]; rfl
theorem gbody_some {r r1 r2 : List UInt8} {s : Bool} {c m x d : Int} {u : Nat} {f o : Bool} (h : vtint r s = some (x, r1)) (h2 : vtint r1 true = some (d, r2)) (hg : gdiff 0 d = (u, f, o)) :
    gbody s c m r = if o = true then gmore s f x u c m r2 else ([], [], 2) := by unfold gbody; rw [h]; dsimp only; rw [h2]; dsimp only; rw [hg]; rfl
theorem gmore_zero {s f : Bool} {x : Int} {u : Nat} {c m : Int} {r : List UInt8} (h : ¬ 0 < c) : gmore s f x u c m r = gend s f x (List.replicate (m - 1).toNat u) r := by unfold gmore; rw [if_neg h]
theorem gmore_bad {s f : Bool} {x : Int} {u : Nat} {c m e : Int} {r q : List UInt8} {us : List Nat} (h : 0 < c) (hu : unpacksAny r (m - 2) (wof c) = (us, q, e)) (he : e ≠ 0) : gmore s f x u c m r = ([], [], 2) := by
  unfold gmore; rw [if_pos h, hu]; dsimp only; rw [if_pos he]; rfl
theorem gmore_good {s f : Bool} {x : Int} {u : Nat} {c m : Int} {r q : List UInt8} {us : List Nat} (h : 0 < c) (hu : unpacksAny r (m - 2) (wof c) = (us, q, 0)) : gmore s f x u c m r = gend s f x (u :: us) q := by
  unfold gmore; rw [if_pos h, hu]; dsimp only; rw [if_neg (by decide)]
theorem unpacksAny_len {l q : List UInt8} {M : Nat} {W : Int} {us : List Nat} (h : unpacksAny l M W = (us, q, 0)) : us.length = M ∧ q.length ≤ l.length := by
  unfold unpacksAny at h
  split at h
  · rw [Int.toNat_natCast] at h
    unfold unpacks at h
    split at h
    · injection h with _ h; injection h with _ h; cases h
    · split at h
      · injection h with h1 h2
        injection h2 with h2 _
        subst h1 h2
        exact ⟨bnums_len _ _ _ _, by rw [List.length_drop]; omega⟩
      · injection h with _ h; injection h with _ h; cases h
  · injection h with _ h; injection h with _ h; cases h
theorem isB_far {w w' : World} {g : Nat} {t : TypeId} {u : Value} {q : List UInt8} {v : Value} (hr : Row w g t [u]) (hu : ∀ b, u ≠ bv b) (h : IsB q v w) (hg : w.grownBy w' (some g)) : IsB q v w' := by
  obtain ⟨A, c, rfl, h2, h3, h4, hl⟩ := h
  refine ⟨A, c, rfl, h2, h3, h4, ?_⟩
  rcases hl with hl | ⟨ad, hA, hlt, hc⟩
  · exact .inl hl
  · cases q with
    | nil => exact .inl rfl
    | cons b q =>
      have hne : ad.block ≠ g := by
        intro e
        have h0 := hc 0 (bv b) rfl
        have e0 : ad.add 0 = ad := by simp [Addr.add]
        rw [e0] at h0
        have hs := World.cell?_spot h0
        obtain ⟨bk, off, spot⟩ := ad
        dsimp only at hs e
        subst hs e
        rw [hr.cell] at h0
        cases off with
        | zero => simp at h0; exact hu b h0
        | succ k => simp at h0
      exact .inr ⟨ad, hA, Nat.lt_of_lt_of_le hlt hg.size, fun j x hx => hg.cell (hc j x hx) (by rw [add_block]; intro e; injection e with e; exact hne e)⟩
def TTakeRel (s f : Bool) (x0 : Int) (us : List Nat) (w : World) (xv out i : Value) (wr : World) : Prop :=
  ∃ (k : Nat) (ys : List Int), k ≤ us.length ∧ xv = .int .i64 (glast x0 ys) ∧ gwalk s f x0 (us.take k) = some ys ∧ i = .int .i64 (k : Int) ∧ wr.ownsRow w.heap.size 3 1 out (k + 1) ((x0 :: ys).map iv) ∧ Below w.heap.size w wr
set_option maxHeartbeats 4000000 in
set_option maxRecDepth 100000 in
theorem rtake9_own (l : List UInt8) (v : Value) (s : Bool) (w : World) (hv : IsB l v w) (hb : l.length ≤ 1000000) :
    Calls Tryd.prog 18 #[v, .bool s] w (RetIO w (gtakeE l s)) := by
  have HLK := Lib.hid (rlook8_any l v w hv hb)
  obtain ⟨A, c, rfl, _⟩ := hv
  have hbd := dlook_bd l
  obtain ⟨K, C, M, r, x, hd⟩ : ∃ K C M r x, dlook l = (K, C, M, r, x) := ⟨_, _, _, _, _, rfl⟩
  rw [hd] at HLK hbd
  dsimp only at hbd
  obtain ⟨hK0, hK1, hC0, hC1, hM0, hM1, hr⟩ := hbd
  by_cases hx : x = 0
  · subst hx
    by_cases hK : K = 3
    · subst hK
      by_cases hM2 : M < 2
      · have hE := Lib.hid (gtakeE_head (l := l) (s := s) (.inr (.inr (by rw [hd]; exact hM2))))
        have d1 : decide (M < 2) = true := decide_eq_true hM2
        clear hd
        go_enter Tryd.func18, Tryd.ntmps18
        go_wp2_with fail
        refine HLK.out.mono ?_
        rintro e w1 ⟨rv, rfl, hrv, hb1⟩
        have HB := Lib.hid hb1
        have HRV := Lib.hid hrv
        clear hb1 hrv
        go_wp2
        go_ret3
        rw [hE.out]
        exact RetIO.nil _ HB.out
      · have d1 : decide (M < 2) = false := decide_eq_false hM2
        obtain ⟨m, rfl⟩ := Int.eq_ofNat_of_zero_le hM0
        have HE0 := Lib.hid (gtakeE_in (s := s) hd (by omega))
        have HRL : Hid (r.length ≤ 1000000) := Lib.hid (by omega)
        clear hd
        cases hv1 : vtint r s with
        | none =>
          have hE : Hid (gtakeE l s = ([], [], 2)) := Lib.hid (by rw [HE0.out, gbody_none hv1])
          have HV1 := Lib.hid hv1
          clear hv1
          go_enter Tryd.func18, Tryd.ntmps18
          go_wp2_with fail
          refine HLK.out.mono ?_
          rintro e w1 ⟨rv, rfl, hrv, hb1⟩
          have HB := Lib.hid hb1
          have HRV := Lib.hid hrv
          clear hb1 hrv
          go_wp2_with fail
          refine (rtakeInt_none s HRV.out HRL.out HV1.out).mono ?_
          rintro e w2 ⟨rv2, rfl, hb2⟩
          have HB := Lib.hid (below_then HB.out hb2)
          clear hb2
          go_wp2
          go_ret3
          rw [hE.out]
          exact RetIO.nil _ HB.out
        | some p =>
          obtain ⟨x0, r1⟩ := p
          have HV1 := Lib.hid hv1
          have HX0 := Lib.hid (vtint_bd hv1).1
          have HRL2 : Hid (r1.length ≤ 1000000) := Lib.hid (by have := (vtint_bd hv1).2; omega)
          clear hv1
          cases hv2 : vtint r1 true with
          | none =>
            have hE : Hid (gtakeE l s = ([], [], 2)) := Lib.hid (by rw [HE0.out, gbody_none2 HV1.out hv2])
            have HV2 := Lib.hid hv2
            clear hv2
            go_enter Tryd.func18, Tryd.ntmps18
            go_wp2_with fail
            refine HLK.out.mono ?_
            rintro e w1 ⟨rv, rfl, hrv, hb1⟩
            have HB := Lib.hid hb1
            have HRV := Lib.hid hrv
            clear hb1 hrv
            go_wp2_with fail
            refine (rtakeInt_some s HRV.out HRL.out HV1.out).mono ?_
            rintro e w2 ⟨rv2, rfl, hrv2, hb2⟩
            have HRV2 := Lib.hid hrv2.isB
            clear hrv2
            have HB := Lib.hid (below_then HB.out hb2)
            clear hb2
            go_wp2_with fail
            refine (rtakeInt_none true HRV2.out HRL2.out HV2.out).mono ?_
            rintro e w3 ⟨rv3, rfl, hb3⟩
            have HB := Lib.hid (below_then HB.out hb3)
            clear hb3
            go_wp2
            go_ret3
            rw [hE.out]
            exact RetIO.nil _ HB.out
          | some p =>
            obtain ⟨dd, r2⟩ := p
            have HV2 := Lib.hid hv2
            have HDI := Lib.hid (vtint_bd hv2).1
            have HRL3 : Hid (r2.length ≤ 1000000) := Lib.hid (by have := (vtint_bd hv2).2; have := HRL2.out; omega)
            clear hv2
            obtain ⟨u, f, o, hg⟩ : ∃ u f o, gdiff 0 dd = (u, f, o) := ⟨_, _, _, rfl⟩
            have HUB : Hid ((u : Int) < 9223372036854775808) := Lib.hid (by have := gdiff_lt 0 dd; rw [hg] at this; exact this)
            have HDF := Lib.hid (fun W => (rdiff9_q 0 dd u f o W ⟨by omega, by omega⟩ HDI.out hg).mono fun _ _ (h : _ ∧ _) => (⟨h.1, h.2.symm⟩ : _ ∧ W = _))
            have HGB := Lib.hid (gbody_some (c := C) (m := (m : Int)) HV1.out HV2.out hg)
            clear hg
            cases o with
            | false =>
              have hE : Hid (gtakeE l s = ([], [], 2)) := Lib.hid (by rw [HE0.out, HGB.out]; rfl)
              go_enter Tryd.func18, Tryd.ntmps18
              go_wp2_with fail
              refine HLK.out.mono ?_
              rintro e w1 ⟨rv, rfl, hrv, hb1⟩
              have HB := Lib.hid hb1
              have HRV := Lib.hid hrv
              clear hb1 hrv
              go_wp2_with fail
              refine (rtakeInt_some s HRV.out HRL.out HV1.out).mono ?_
              rintro e w2 ⟨rv2, rfl, hrv2, hb2⟩
              have HRV2 := Lib.hid hrv2.isB
              clear hrv2
              have HB := Lib.hid (below_then HB.out hb2)
              clear hb2
              go_wp2_with fail
              refine (rtakeInt_some true HRV2.out HRL2.out HV2.out).mono ?_
              rintro e w3 ⟨rv3, rfl, hrv3, hb3⟩
              have HRO3 := Lib.hid (OwnB.base HB.out.size hrv3)
              have HRV3 := Lib.hid hrv3.isB
              clear hrv3
              have HB := Lib.hid (below_then HB.out hb3)
              clear hb3
              go_wp2_with fail
              refine (HDF.out _).mono ?_
              rintro e w' ⟨rfl, rfl⟩
              go_wp2
              go_ret3
              rw [hE.out]
              exact RetIO.nil _ HB.out
            | true =>
              have HE1 : Hid (gtakeE l s = gmore s f x0 u C m r2) := Lib.hid (by rw [HE0.out, HGB.out]; rfl)
              obtain ⟨N, hN⟩ : ∃ N, N = m - 1 := ⟨_, rfl⟩
              have hNi : (m : Int) - 1 = (N : Int) := by omega
              have hN5 : N ≤ 511 := by omega
              have hN1 : 1 ≤ N := by omega
              by_cases hC : 0 < C
              · have d2 : decide ((0 : Int) < C) = true := decide_eq_true hC
                obtain ⟨N2, hN2⟩ : ∃ N2, N2 = m - 2 := ⟨_, rfl⟩
                have hN2i : (m : Int) - 2 = (N2 : Int) := by omega
                have hN25 : N2 ≤ 510 := by omega
                obtain ⟨us, q, y, hu⟩ : ∃ us q y, unpacksAny r2 (N2 : Int) (wof C) = (us, q, y) := ⟨_, _, _, rfl⟩
                have hlt := (unpacksAny_lt (l := r2) (M := (N2 : Int)) (W := wof C)).1
                rw [hu] at hlt
                dsimp only at hlt
                have HU := Lib.hid hu
                have HLTT := Lib.hid hlt
                have HOF := Lib.hid (fun X => rof_any C X (by omega) (by omega))
                obtain ⟨W, hW⟩ : ∃ W, W = wof C := ⟨_, rfl⟩
                rw [← hW] at HOF HU
                have HUN := Lib.hid (fun (u : Value) (X : World) (h : IsB r2 u X) => runpack_isO (N2 : Int) W h HRL3.out)
                rw [HU.out] at HUN
                have HWW := Lib.hid hW
                have HN2 := Lib.hid (show N = N2 + 1 by omega)
                clear hu hlt hW hN hN2
                by_cases hy : y = 0
                · subst hy
                  have hus := unpacksAny_len HU.out
                  have HUS : Hid ((u :: us).length = N) := Lib.hid (by rw [List.length_cons, hus.1, HN2.out])
                  have HULN := Lib.hid hus.1
                  have HUA : Hid (∀ z ∈ u :: us, (z : Int) < 18446744073709551616) := Lib.hid (by
                    intro z hz
                    rcases List.mem_cons.1 hz with h | h
                    · rw [h]; have := HUB.out; omega
                    · have h2 : z < 18446744073709551616 := HLTT.out z h
                      omega)
                  have hE : Hid (gtakeE l s = gend s f x0 (u :: us) q) := Lib.hid (by rw [HE1.out, gmore_good hC (by rw [hN2i, ← HWW.out]; exact HU.out)])
                  clear hus
                  go_enter Tryd.func18, Tryd.ntmps18
                  go_wp2_with fail
                  refine HLK.out.mono ?_
                  rintro e w1 ⟨rv, rfl, hrv, hb1⟩
                  have HB := Lib.hid hb1
                  have HRV := Lib.hid hrv
                  clear hb1 hrv
                  go_wp2_with fail
                  refine (rtakeInt_some s HRV.out HRL.out HV1.out).mono ?_
                  rintro e w2 ⟨rv2, rfl, hrv2, hb2⟩
                  have HRV2 := Lib.hid hrv2.isB
                  clear hrv2
                  have HB := Lib.hid (below_then HB.out hb2)
                  clear hb2
                  go_wp2_with fail
                  refine (rtakeInt_some true HRV2.out HRL2.out HV2.out).mono ?_
                  rintro e w3 ⟨rv3, rfl, hrv3, hb3⟩
                  have HRO3 := Lib.hid (OwnB.base HB.out.size hrv3)
                  have HRV3 := Lib.hid hrv3.isB
                  clear hrv3
                  have HB := Lib.hid (below_then HB.out hb3)
                  clear hb3
                  go_wp2_with fail
                  refine (HDF.out _).mono ?_
                  rintro e w' ⟨rfl, rfl⟩
                  have hownS := own_one w3 23 (uv u) (base := w3.heap.size) (Nat.le_refl _)
                  have hbS : Below w3.heap.size w3 (w3.alloc (.cells #[uv u] 23)) := (Below.refl _ _).alloc (Nat.le_refl _) _
                  have HRV4 := Lib.hid (HRV3.out.below hbS)
                  have HOS := Lib.hid hownS
                  have HBS := Lib.hid hbS
                  clear hownS hbS
                  go_wp2_with (go_at_call 42; refine (HOF.out _).mono ?_; rintro e w' ⟨rfl, rfl⟩)
                  refine (HUN.out _ _ HRV4.out).mono ?_
                  rintro e w5 ⟨u5, q5, rfl, hu5, hq5, hb5⟩
                  have hown5 := own_below HOS.out hb5
                  have hb5' := HBS.out.trans (hb5.mono HBS.out.size)
                  have hz5 := hb5'.size
                  obtain ⟨A5, n5, c5, rfl⟩ := IsV.shape (f := uv) (isV_own (f := uv) hu5)
                  obtain ⟨hn5, hA5, -, -, hl5⟩ := IsV.parts (f := uv) (isV_own (f := uv) hu5)
                  have HM5 := Lib.hid (show (us.map uv).length = n5 by rw [List.length_map]; exact hn5)
                  have hn5b : n5 ≤ 600 := by rw [← hn5, HULN.out]; omega
                  have HQ5 := Lib.hid hq5
                  clear hu5 hq5 hn5 hb5
                  go_wp2_with (at_builtin; refine wpList_join elemU rfl _ _ rfl w3.heap.size _ _ _ _ _ _ (us.map uv) w3 rfl rfl hA5 HM5.out hl5 (uv_one us) hown5 hb5' hz5 (by omega) (by omega) ?_)
                  intro v6 W0 hown6 hb6 hkeep6 _
                  have HQ0 : Hid (OwnB w q q5 W0) := Lib.hid (OwnB.base HB.out.size (HQ5.out.elim fun _ h => ⟨_, own_other (own_base HBS.out.size h) hown5 (by decide) hkeep6⟩))
                  have hI6 : IsV uv (u :: us) v6 W0 := isV_own (n := 1 + n5) hown6
                  obtain ⟨B6, n6, c6, rfl⟩ := hI6.shape
                  have hn6 := hI6.parts.1
                  rw [HUS.out] at hn6
                  subst hn6
                  obtain ⟨bd, rfl, _⟩ := hI6.at (k := 0) (by simp)
                  have HSZ := Lib.hid hI6
                  have HB := Lib.hid (below_then HB.out hb6)
                  clear hI6 hown6 hb6 hkeep6 hown5 hb5' hz5 hl5
                  have hown0 := own_one W0 3 (.int .i64 x0) (base := W0.heap.size) (Nat.le_refl _)
                  have hbo : Below W0.heap.size W0 (W0.alloc (.cells #[.int .i64 x0] 3)) := (Below.refl _ _).alloc (Nat.le_refl _) _
                  have hst : TTakeRel s f x0 (u :: us) W0 (.int .i64 x0) (.slice (some ⟨W0.heap.size, 0, none⟩) 1 1) (.int .i64 0) (W0.alloc (.cells #[.int .i64 x0] 3)) := ⟨0, [], by omega, rfl, rfl, rfl, hown0, hbo⟩
                  have HST := Lib.hid hst
                  clear hst hown0 hbo
                  go_wp2
                  go_loopw [12, 21, 22] (TTakeRel s f x0 (u :: us) W0) (fun _ _ i _ => N - (intOf i).toNat)
                  case atStart => exact HST.out
                  case round =>
                    obtain ⟨k, ys, hk, rfl, hgw, rfl, hown, hbr⟩ := hrel
                    have hz := hbr.size
                    have HBR := Lib.hid (below_then HB.out hbr)
                    have HGW := Lib.hid hgw
                    have hkN : k ≤ N := by have := HUS.out; omega
                    have hyi : inInt (glast x0 ys) := gwalk_last hgw HX0.out
                    obtain ⟨x, hx⟩ : ∃ x, x = glast x0 ys := ⟨_, rfl⟩
                    rw [← hx] at hyi ⊢
                    have HX := Lib.hid hx
                    have HXI := Lib.hid hyi
                    have HTT := Lib.hid HST
                    clear hgw hx hyi
                    by_cases hlt : k < N
                    · have hlti : (k : Int) < (N : Int) := by omega
                      have hkl : k < (u :: us).length := by have := HUS.out; omega
                      obtain ⟨_, hAd, _, hcell⟩ := (HSZ.out.below hbr).at hkl
                      injection hAd with hAd
                      subst hAd
                      obtain ⟨u', hu'⟩ : ∃ u', u' = (u :: us)[k] := ⟨_, rfl⟩
                      obtain ⟨wr', hwr⟩ : ∃ w', w' = wr := ⟨_, rfl⟩
                      rw [← hwr] at hown hbr hz HBR hcell ⊢
                      clear hwr
                      have hcx : wr'.cell? (bd.add k) = some (.int .u64 (u' : Int)) := by rw [hcell, hu']; rfl
                      have HTK : Hid ((u :: us).take (k + 1) = (u :: us).take k ++ [u']) := Lib.hid (by rw [List.take_succ_eq_append_getElem hkl, hu'])
                      have HU64 : Hid ((u' : Int) < 18446744073709551616) := Lib.hid (by rw [hu']; exact HUA.out _ (List.getElem_mem _))
                      clear hcell hu' hkl
                      have hgs := rstep9_any x (u' : Int) f wr' HXI.out (by omega) (by have := HU64.out; omega)
                      rw [Int.toNat_natCast] at hgs
                      obtain ⟨y, ok, hy⟩ : ∃ y ok, gstep x u' f = (y, ok) := ⟨_, _, rfl⟩
                      have hyb : inInt y := by have := gstep_bd (u := u') (f := f) HXI.out; rw [hy] at this; exact this
                      rw [hy] at hgs
                      have HGS := Lib.hid hgs
                      have hnx : gnext s f (glast x0 ys) u' = if ok = true ∧ (s = true ∨ 0 ≤ y) then some y else none := by unfold gnext; rw [← HX.out, hy]
                      have HNX := Lib.hid hnx
                      have HYB := Lib.hid hyb
                      clear hgs hy hyb hnx
                      by_cases hgo : ok = true ∧ (s = true ∨ 0 ≤ y)
                      · have HW2 : Hid (gwalk s f x0 ((u :: us).take (k + 1)) = some (ys ++ [y])) := Lib.hid (by rw [HTK.out, gwalk_snoc, HGW.out]; dsimp only; rw [HNX.out, if_pos hgo])
                        obtain ⟨rfl, hsy⟩ := hgo
                        have hcase : decide (y < 0) = false ∨ (decide (y < 0) = true ∧ s = true) := by
                          rcases hsy with h | h
                          · by_cases h2 : y < 0
                            · exact .inr ⟨decide_eq_true h2, h⟩
                            · exact .inl (decide_eq_false h2)
                          · exact .inl (decide_eq_false (by omega))
                        clear hsy
                        rcases hcase with hd0 | ⟨hd0, rfl⟩
                        all_goals
                          go_wp2_with (first | (go_at_call 12; refine HGS.out.mono ?_; rintro e w' ⟨rfl, rfl⟩) | (at_builtin; refine wpList_push elemI rfl _ _ rfl W0.heap.size _ _ _ (.int .i64 y) wr' W0 rfl rfl rfl rfl hown hbr hz (by omega) (by omega) ?_))
                          intro v5 w5 hown5 hb5 _ _
                          have hown6 : w5.ownsRow W0.heap.size 3 1 v5 (k + 1 + 1) ((x0 :: (ys ++ [y])).map iv) := by rw [← List.cons_append, List.map_append]; exact hown5
                          have HO6 := Lib.hid hown6
                          have HB5 := Lib.hid hb5
                          have hki : IntKind.i64.wrap ((k : Int) + 1) = (k : Int) + 1 := by rw [IntKind.wrap_i64]; omega
                          clear hown5 hown6 hown hb5
                          go_wp2
                          go_roundw
                          case rel => exact ⟨k + 1, ys ++ [y], by have := HUS.out; omega, by rw [glast_snoc], HW2.out, by rw [Int.natCast_add]; rfl, HO6.out, HB5.out⟩
                          case measure => simp [intOf]; omega
                      · have hW2 : gwalk s f x0 ((u :: us).take (k + 1)) = none := by rw [HTK.out, gwalk_snoc, HGW.out]; dsimp only; rw [HNX.out, if_neg hgo]
                        have hE2 : Hid (gtakeE l s = ([], [], 2)) := Lib.hid (by rw [hE.out]; unfold gend; rw [gwalk_take_none hW2]; rfl)
                        have hcase : ok = false ∨ (ok = true ∧ decide (y < 0) = true ∧ s = false) := by
                          cases ok with
                          | false => exact .inl rfl
                          | true =>
                            refine .inr ⟨rfl, ?_, ?_⟩
                            · exact decide_eq_true (Int.not_le.1 fun h => hgo ⟨rfl, .inr h⟩)
                            · cases s with | false => rfl | true => exact absurd ⟨rfl, .inl rfl⟩ hgo
                        clear hW2 hgo hown
                        rcases hcase with rfl | ⟨rfl, hd0, rfl⟩
                        all_goals
                          go_wp2_with (go_at_call 12; refine HGS.out.mono ?_; rintro e w' ⟨rfl, rfl⟩)
                          go_ret3
                          rw [hE2.out]
                          exact RetIO.nil _ HBR.out
                    · obtain rfl : N = k := by omega
                      have hlti : ¬ (N : Int) < (N : Int) := by omega
                      have hW2 : gwalk s f x0 (u :: us) = some ys := by have h := HGW.out; rw [List.take_of_length_le (by have := HUS.out; omega)] at h; exact h
                      have hE2 : Hid (gtakeE l s = (x0 :: ys, q, 0)) := Lib.hid (by rw [hE.out]; unfold gend; rw [hW2])
                      have HO := Lib.hid (isV_own (f := iv) (l := x0 :: ys) hown)
                      have HQ := Lib.hid (HQ0.out.below hbr)
                      clear hW2 hown hbr
                      go_wp2
                      go_ret3
                      rw [hE2.out]
                      exact ⟨_, _, rfl, HO.out, HQ.out, HBR.out⟩
                · have hE : Hid (gtakeE l s = ([], [], 2)) := Lib.hid (by rw [HE1.out, gmore_bad hC (by rw [hN2i, ← HWW.out]; exact HU.out) hy])
                  have d3 : (y != 0) = true := by simpa using hy
                  go_enter Tryd.func18, Tryd.ntmps18
                  go_wp2_with fail
                  refine HLK.out.mono ?_
                  rintro e w1 ⟨rv, rfl, hrv, hb1⟩
                  have HB := Lib.hid hb1
                  have HRV := Lib.hid hrv
                  clear hb1 hrv
                  go_wp2_with fail
                  refine (rtakeInt_some s HRV.out HRL.out HV1.out).mono ?_
                  rintro e w2 ⟨rv2, rfl, hrv2, hb2⟩
                  have HRV2 := Lib.hid hrv2.isB
                  clear hrv2
                  have HB := Lib.hid (below_then HB.out hb2)
                  clear hb2
                  go_wp2_with fail
                  refine (rtakeInt_some true HRV2.out HRL2.out HV2.out).mono ?_
                  rintro e w3 ⟨rv3, rfl, hrv3, hb3⟩
                  have HRO3 := Lib.hid (OwnB.base HB.out.size hrv3)
                  have HRV3 := Lib.hid hrv3.isB
                  clear hrv3
                  have HB := Lib.hid (below_then HB.out hb3)
                  clear hb3
                  go_wp2_with fail
                  refine (HDF.out _).mono ?_
                  rintro e w' ⟨rfl, rfl⟩
                  have hbS : Below w3.heap.size w3 (w3.alloc (.cells #[uv u] 23)) := (Below.refl _ _).alloc (Nat.le_refl _) _
                  have HRV4 := Lib.hid (HRV3.out.below hbS)
                  have HBS := Lib.hid hbS
                  clear hbS
                  go_wp2_with (go_at_call 42; refine (HOF.out _).mono ?_; rintro e w' ⟨rfl, rfl⟩)
                  refine (HUN.out _ _ HRV4.out).mono ?_
                  rintro e w5 ⟨u5, q5, rfl, hu5, hq5, hb5⟩
                  have HB := Lib.hid (below_then HB.out (HBS.out.trans (hb5.mono HBS.out.size)))
                  clear hb5
                  go_wp2
                  go_ret3
                  rw [hE.out]
                  exact RetIO.nil _ HB.out
              · have d2 : decide ((0 : Int) < C) = false := decide_eq_false hC
                have HUS : Hid ((List.replicate N u).length = N) := Lib.hid (by simp)
                have hE : Hid (gtakeE l s = gend s f x0 (List.replicate N u) r2) := Lib.hid (by rw [HE1.out, gmore_zero hC, hNi, Int.toNat_natCast])
                clear hN
                go_enter Tryd.func18, Tryd.ntmps18
                go_wp2_with fail
                refine HLK.out.mono ?_
                rintro e w1 ⟨rv, rfl, hrv, hb1⟩
                have HB := Lib.hid hb1
                have HRV := Lib.hid hrv
                clear hb1 hrv
                go_wp2_with fail
                refine (rtakeInt_some s HRV.out HRL.out HV1.out).mono ?_
                rintro e w2 ⟨rv2, rfl, hrv2, hb2⟩
                have HRV2 := Lib.hid hrv2.isB
                clear hrv2
                have HB := Lib.hid (below_then HB.out hb2)
                clear hb2
                go_wp2_with fail
                refine (rtakeInt_some true HRV2.out HRL2.out HV2.out).mono ?_
                rintro e w3 ⟨rv3, rfl, hrv3, hb3⟩
                have HRO3 := Lib.hid (OwnB.base HB.out.size hrv3)
                have HRV3 := Lib.hid hrv3.isB
                clear hrv3
                have HB := Lib.hid (below_then HB.out hb3)
                clear hb3
                go_wp2_with fail
                refine (HDF.out _).mono ?_
                rintro e w' ⟨rfl, rfl⟩
                have hbS : Below w3.heap.size w3 (w3.alloc (.cells #[uv u] 23)) := (Below.refl _ _).alloc (Nat.le_refl _) _
                have HRO4 := Lib.hid (HRO3.out.below hbS)
                have HBS := Lib.hid hbS
                have HB := Lib.hid (below_then HB.out hbS)
                clear hbS
                obtain ⟨W0, hW0⟩ : ∃ W0, W0 = w3.alloc (.cells #[.int .u64 (u : Int)] 23) := ⟨_, rfl⟩
                have hsz0 : W0.heap.size = w3.heap.size + 1 := by rw [hW0]; simp
                have HW0 := Lib.hid hW0
                have HSZ0 := Lib.hid hsz0
                rw [show uv u = .int .u64 (u : Int) from rfl, ← hW0] at HB HRO4
                clear hW0 hsz0
                have hown0 := own_one W0 3 (.int .i64 x0) (base := W0.heap.size) (Nat.le_refl _)
                have hbo : Below W0.heap.size W0 (W0.alloc (.cells #[.int .i64 x0] 3)) := (Below.refl _ _).alloc (Nat.le_refl _) _
                have hst : TTakeRel s f x0 (List.replicate N u) W0 (.int .i64 x0) (.slice (some ⟨W0.heap.size, 0, none⟩) 1 1) (.int .i64 0) (W0.alloc (.cells #[.int .i64 x0] 3)) := ⟨0, [], by omega, rfl, rfl, rfl, hown0, hbo⟩
                have HST := Lib.hid hst
                clear hst hown0 hbo
                go_wp2
                go_loopw [12, 21, 22] (TTakeRel s f x0 (List.replicate N u) W0) (fun _ _ i _ => N - (intOf i).toNat)
                case atStart => rw [← HW0.out, ← HSZ0.out]; exact HST.out
                case round =>
                  obtain ⟨k, ys, hk, rfl, hgw, rfl, hown, hbr⟩ := hrel
                  have hz := hbr.size
                  have HBR := Lib.hid (below_then HB.out hbr)
                  have HGW := Lib.hid hgw
                  have hkN : k ≤ N := by have := HUS.out; omega
                  have hyi : inInt (glast x0 ys) := gwalk_last hgw HX0.out
                  obtain ⟨x, hx⟩ : ∃ x, x = glast x0 ys := ⟨_, rfl⟩
                  rw [← hx] at hyi ⊢
                  have HX := Lib.hid hx
                  have HXI := Lib.hid hyi
                  have HTT := Lib.hid HST
                  clear hgw hx hyi
                  by_cases hlt : k < N
                  · have hlti : (k : Int) < (N : Int) := by omega
                    obtain ⟨wr', hwr⟩ : ∃ w', w' = wr := ⟨_, rfl⟩
                    rw [← hwr] at hown hbr hz HBR ⊢
                    clear hwr
                    have HTK : Hid ((List.replicate N u).take (k + 1) = (List.replicate N u).take k ++ [u]) := Lib.hid (by rw [List.take_succ_eq_append_getElem (by rw [List.length_replicate]; exact hlt), List.getElem_replicate])
                    have HU64 : Hid ((u : Int) < 9223372036854775808) := Lib.hid HUB.out
                    have hgs := rstep9_any x (u : Int) f wr' HXI.out (by omega) (by have := HU64.out; omega)
                    rw [Int.toNat_natCast] at hgs
                    obtain ⟨y, ok, hy⟩ : ∃ y ok, gstep x u f = (y, ok) := ⟨_, _, rfl⟩
                    have hyb : inInt y := by have := gstep_bd (u := u) (f := f) HXI.out; rw [hy] at this; exact this
                    rw [hy] at hgs
                    have HGS := Lib.hid hgs
                    have hnx : gnext s f (glast x0 ys) u = if ok = true ∧ (s = true ∨ 0 ≤ y) then some y else none := by unfold gnext; rw [← HX.out, hy]
                    have HNX := Lib.hid hnx
                    have HYB := Lib.hid hyb
                    clear hgs hy hyb hnx
                    by_cases hgo : ok = true ∧ (s = true ∨ 0 ≤ y)
                    · have HW2 : Hid (gwalk s f x0 ((List.replicate N u).take (k + 1)) = some (ys ++ [y])) := Lib.hid (by rw [HTK.out, gwalk_snoc, HGW.out]; dsimp only; rw [HNX.out, if_pos hgo])
                      obtain ⟨rfl, hsy⟩ := hgo
                      have hcase : decide (y < 0) = false ∨ (decide (y < 0) = true ∧ s = true) := by
                        rcases hsy with h | h
                        · by_cases h2 : y < 0
                          · exact .inr ⟨decide_eq_true h2, h⟩
                          · exact .inl (decide_eq_false h2)
                        · exact .inl (decide_eq_false (by omega))
                      clear hsy
                      rcases hcase with hd0 | ⟨hd0, rfl⟩
                      all_goals
                        go_wp2_with (first | (go_at_call 12; refine HGS.out.mono ?_; rintro e w' ⟨rfl, rfl⟩) | (at_builtin; refine wpList_push elemI rfl _ _ rfl W0.heap.size _ _ _ (.int .i64 y) wr' W0 rfl rfl rfl rfl hown hbr hz (by omega) (by omega) ?_))
                        intro v5 w5 hown5 hb5 _ _
                        have hown6 : w5.ownsRow W0.heap.size 3 1 v5 (k + 1 + 1) ((x0 :: (ys ++ [y])).map iv) := by rw [← List.cons_append, List.map_append]; exact hown5
                        have HO6 := Lib.hid hown6
                        have HB5 := Lib.hid hb5
                        have hki : IntKind.i64.wrap ((k : Int) + 1) = (k : Int) + 1 := by rw [IntKind.wrap_i64]; omega
                        clear hown5 hown6 hown hb5
                        go_wp2
                        go_roundw
                        case rel => exact ⟨k + 1, ys ++ [y], by have := HUS.out; omega, by rw [glast_snoc], HW2.out, by rw [Int.natCast_add]; rfl, HO6.out, HB5.out⟩
                        case measure => simp [intOf]; omega
                    · have hW2 : gwalk s f x0 ((List.replicate N u).take (k + 1)) = none := by rw [HTK.out, gwalk_snoc, HGW.out]; dsimp only; rw [HNX.out, if_neg hgo]
                      have hE2 : Hid (gtakeE l s = ([], [], 2)) := Lib.hid (by rw [hE.out]; unfold gend; rw [gwalk_take_none hW2]; rfl)
                      have hcase : ok = false ∨ (ok = true ∧ decide (y < 0) = true ∧ s = false) := by
                        cases ok with
                        | false => exact .inl rfl
                        | true =>
                          refine .inr ⟨rfl, ?_, ?_⟩
                          · exact decide_eq_true (Int.not_le.1 fun h => hgo ⟨rfl, .inr h⟩)
                          · cases s with | false => rfl | true => exact absurd ⟨rfl, .inl rfl⟩ hgo
                      clear hW2 hgo hown
                      rcases hcase with rfl | ⟨rfl, hd0, rfl⟩
                      all_goals
                        go_wp2_with (go_at_call 12; refine HGS.out.mono ?_; rintro e w' ⟨rfl, rfl⟩)
                        go_ret3
                        rw [hE2.out]
                        exact RetIO.nil _ HBR.out
                  · obtain rfl : N = k := by omega
                    have hlti : ¬ (N : Int) < (N : Int) := by omega
                    have hW2 : gwalk s f x0 (List.replicate N u) = some ys := by have h := HGW.out; rw [List.take_of_length_le (by have := HUS.out; omega)] at h; exact h
                    have hE2 : Hid (gtakeE l s = (x0 :: ys, r2, 0)) := Lib.hid (by rw [hE.out]; unfold gend; rw [hW2])
                    have HO := Lib.hid (isV_own (f := iv) (l := x0 :: ys) hown)
                    have HQ := Lib.hid (HRO4.out.below hbr)
                    clear hW2 hown hbr
                    go_wp2
                    go_ret3
                    rw [hE2.out]
                    exact ⟨_, _, rfl, HO.out, HQ.out, HBR.out⟩
    · have hE := Lib.hid (gtakeE_head (l := l) (s := s) (.inr (.inl (by rw [hd]; exact hK))))
      have d1 : (K != 3) = true := by simpa using hK
      clear hd
      go_enter Tryd.func18, Tryd.ntmps18
      go_wp2_with fail
      refine HLK.out.mono ?_
      rintro e w1 ⟨rv, rfl, hrv, hb1⟩
      have HB := Lib.hid hb1
      have HRV := Lib.hid hrv
      clear hb1 hrv
      go_wp2
      go_ret3
      rw [hE.out]
      exact RetIO.nil _ HB.out
  · have hE := Lib.hid (gtakeE_head (l := l) (s := s) (.inl (by rw [hd]; exact hx)))
    have d1 : (x != 0) = true := by simpa using hx
    clear hd
    go_enter Tryd.func18, Tryd.ntmps18
    go_wp2_with fail
    refine HLK.out.mono ?_
    rintro e w1 ⟨rv, rfl, hrv, hb1⟩
    have HB := Lib.hid hb1
    have HRV := Lib.hid hrv
    clear hb1 hrv
    go_wp2
    go_ret3
    rw [hE.out]
    exact RetIO.nil _ HB.out
theorem rtake9_any (l : List UInt8) (v : Value) (s : Bool) (w : World) (hv : IsB l v w) (hb : l.length ≤ 1000000) :
    Calls Tryd.prog 18 #[v, .bool s] w (RetIB w (gtakeE l s)) := (rtake9_own l v s w hv hb).mono fun _ _ h => h.ib
end Go.Proofs.YtchgpgnipmmflaaDoor

/- The contract of layer 7's reference's Take. -/



namespace Go.Proofs.YtchgpgnipmmflaaDoor

open Go.RowKit

theorem results_tmp4 {fn : Func} {t u v x : Tmp} (h : fn.results = #[.tmp t, .tmp u, .tmp v, .tmp x]) (tmps : Array Value) (P : Program) (w : World) :
    (results fn tmps).run P w = .ok (.tuple #[tmps.getD t undef, tmps.getD u undef, tmps.getD v undef, tmps.getD x undef]) w := by
  simp [results, h]
theorem gives_not {P : Program} {o : Oper} {ρ : Operand → Value} {w : World} {R : Value → World → Prop} {t : TypeId} {x : Operand} {b : Bool} (ho : o.op = .unOp .not t x) (hx : ρ x = .bool b) (hR : R (.bool !b) w) : Gives P o ρ w R := by
  refine gives_of (v := .bool !b) (w' := w) ?_ hR
  simp [execOp, ho, hx, go_sem]

/-- A number, how often, bytes and an error that a call answers. -/
def RetT7 (w : World) (p : Int × Int × List UInt8 × Int) (e : Ending) (w' : World) : Prop :=
  ∃ v, e = .returned (.tuple #[.int .i64 p.1, .int .i64 p.2.1, v, .int .i64 p.2.2.2]) ∧ IsB p.2.2.1 v w' ∧ Below w.heap.size w w'
theorem RetT7.no {w w' : World} (hb : Below w.heap.size w w') : RetT7 w (0, 0, [], 2) (.returned (.tuple #[.int .i64 0, .int .i64 0, .slice none 0 0, .int .i64 2])) w' := ⟨_, rfl, isB_nil _, hb⟩
/-- The same, the bytes in a row of the call's own. -/
def RetT7O (w : World) (p : Int × Int × List UInt8 × Int) (e : Ending) (w' : World) : Prop :=
  ∃ v, e = .returned (.tuple #[.int .i64 p.1, .int .i64 p.2.1, v, .int .i64 p.2.2.2]) ∧ OwnB w p.2.2.1 v w' ∧ Below w.heap.size w w'
theorem RetT7O.no {w w' : World} (hb : Below w.heap.size w w') : RetT7O w (0, 0, [], 2) (.returned (.tuple #[.int .i64 0, .int .i64 0, .slice none 0 0, .int .i64 2])) w' := ⟨_, rfl, OwnB.nil _ _, hb⟩
theorem RetT7O.t7 {w w' : World} {p : Int × Int × List UInt8 × Int} {e : Ending} (h : RetT7O w p e w') : RetT7 w p e w' := by
  obtain ⟨v, h1, h2, h3⟩ := h
  exact ⟨v, h1, h2.isB, h3⟩
theorem etake_nil (s : Bool) : etake [] s = (0, 0, [], 2) := rfl
theorem etake_big {l : List UInt8} {s : Bool} (h0 : 0 < l.length) (h : 64 ≤ l[0].toNat) : etake l s = (0, 0, [], 2) := by
  cases l with
  | nil => simp at h0
  | cons b r => simp at h; unfold etake; simp only []; rw [if_pos h]
theorem etake_short {l : List UInt8} {s : Bool} {K : Nat} (h0 : 0 < l.length) (hK : K = l[0].toNat / 8 + 1) (h : l.length < K + 1) : etake l s = (0, 0, [], 2) := by
  cases l with
  | nil => simp at h0
  | cons b r =>
    simp at hK h
    unfold etake; simp only []
    rw [← hK]
    split
    · rfl
    · first | rfl | rw [if_pos (by omega)]
theorem etake_none {l : List UInt8} {s : Bool} {K u : Nat} (h0 : 0 < l.length) (hK : K = l[0].toNat / 8 + 1) (hu : u = bval ((l.drop 1).take K)) (h : emade u s = none ∨ ebytes u ≠ K) : etake l s = (0, 0, [], 2) := by
  cases l with
  | nil => simp at h0
  | cons b r =>
    simp at hK hu
    unfold etake; simp only []
    rw [← hK, ← hu]
    split
    · rfl
    split
    · rfl
    split
    · rfl
    · rename_i h3
      rcases h with h | h
      · rw [h]
      · exact absurd h h3
theorem etake_some {l : List UInt8} {s : Bool} {K u : Nat} {x : Int} (h0 : 0 < l.length) (hK : K = l[0].toNat / 8 + 1) (h64 : l[0].toNat < 64) (hl : K + 1 ≤ l.length) (hu : u = bval ((l.drop 1).take K)) (h : emade u s = some x) (hb : ebytes u = K) :
    etake l s = (x, ((l[0].toNat % 8 + 3 : Nat) : Int), l.drop (K + 1), 0) := by
  cases l with
  | nil => simp at h0
  | cons b r =>
    simp at hK hu hl h64
    unfold etake; simp only []
    rw [← hK, ← hu, if_neg (by omega), if_neg (by omega), if_neg (by omega), h]
    simp
theorem elay_same {l : List UInt8} {K u T : Nat} (h0 : 0 < l.length) (hK : K = l[0].toNat / 8 + 1) (hT : T = l[0].toNat % 8 + 3) (hl : K + 1 ≤ l.length) (hu : u = bval ((l.drop 1).take K)) : elay u T = l.take (K + 1) ↔ ebytes u = K := by
  cases l with
  | nil => simp at h0
  | cons b r =>
    simp at hK hu hl hT
    rw [List.take_succ_cons]
    constructor
    · intro h
      have h1 := congrArg List.length h
      rw [elay_len, List.length_cons, List.length_take] at h1
      omega
    · intro h
      unfold elay
      rw [h, show 8 * (K - 1) + (T - 3) = b.toNat by omega, UInt8.ofNat_toNat]
      congr 1
      exact (eq_be (by rw [List.length_take]; omega) hu.symm).symm
theorem bval_at (r : List UInt8) (k : Nat) (h : k < r.length) : bval (r.take (k + 1)) = 256 * bval (r.take k) + r[k].toNat := by
  rw [List.take_succ_eq_append_getElem h, bval_append]
  simp [bval]
  omega
theorem bval_seven (r : List UInt8) {k : Nat} (h : k ≤ 7) : ((bval (r.take k) : Nat) : Int) < 72057594037927936 := by
  have h1 := bval_lt (r.take k)
  have h2 : 256 ^ (r.take k).length ≤ 256 ^ 7 := Nat.pow_le_pow_right (by omega) (by rw [List.length_take]; omega)
  omega
theorem bval_eight (r : List UInt8) {k : Nat} (h : k ≤ 8) : bval (r.take k) < 2 ^ 64 := by
  have h1 := bval_lt (r.take k)
  have h2 : 256 ^ (r.take k).length ≤ 256 ^ 8 := Nat.pow_le_pow_right (by omega) (by rw [List.length_take]; omega)
  omega
def RTake7Rel (r : List UInt8) (K : Nat) (v i : Value) : Prop := ∃ (k : Nat) (U : Int), k ≤ K ∧ i = .int .i64 (k : Int) ∧ v = .int .u64 U ∧ U = ((bval (r.take k) : Nat) : Int)
end Go.Proofs.YtchgpgnipmmflaaDoor

/- x & (2^w - 1) of a number with a sign. -/



namespace Go.Proofs.YtchgpgnipmmflaaDoor

theorem i64_mask (n : Int) (w : Nat) (hw : w ≤ 62) : bits .and .i64 n (((2 ^ w - 1 : Nat) : Nat) : Int) = n % ((2 ^ w : Nat) : Int) := by
  have hW : 2 ^ w ≤ 2 ^ 62 := Nat.pow_le_pow_right (by omega) hw
  have hp : 0 < 2 ^ w := Nat.two_pow_pos w
  have h31 : (BitVec.ofInt 64 ((2 ^ w - 1 : Nat) : Int)).toNat = 2 ^ w - 1 := by
    rw [BitVec.ofInt_natCast, BitVec.toNat_ofNat]
    exact Nat.mod_eq_of_lt (by omega)
  have key : (BitVec.ofInt 64 n &&& BitVec.ofInt 64 ((2 ^ w - 1 : Nat) : Int)).toNat = (n % ((2 ^ 64 : Nat) : Int)).toNat % 2 ^ w := by
    rw [BitVec.toNat_and, BitVec.toNat_ofInt, h31, Nat.and_two_pow_sub_one_eq_mod]
  have hdvd : ((2 ^ w : Nat) : Int) ∣ ((2 ^ 64 : Nat) : Int) := Int.natCast_dvd_natCast.2 (Nat.pow_dvd_pow 2 (by omega))
  have e1 : (((n % ((2 ^ 64 : Nat) : Int)).toNat % 2 ^ w : Nat) : Int) = n % ((2 ^ w : Nat) : Int) := by
    rw [Int.natCast_emod, Int.toNat_of_nonneg (Int.emod_nonneg _ (by decide)), Int.emod_emod_of_dvd _ hdvd]
  show IntKind.i64.wrap ((BitVec.ofInt 64 n &&& BitVec.ofInt 64 ((2 ^ w - 1 : Nat) : Int)).toNat : Nat) = _
  rw [key, e1, IntKind.wrap_i64]
  have h1 := Int.emod_nonneg n (show ((2 ^ w : Nat) : Int) ≠ 0 by omega)
  have h2 := Int.emod_lt_of_pos n (show (0 : Int) < ((2 ^ w : Nat) : Int) by omega)
  omega
end Go.Proofs.YtchgpgnipmmflaaDoor

/- direct's own contracts, but Take's and Put's. -/







namespace Go.Proofs.YtchgpgnipmmflaaDoor

open Go.RowKit

theorem i64_or_nat (a b : Nat) (ha : a < 2 ^ 63) (hb : b < 2 ^ 63) : bits .or .i64 (a : Int) (b : Int) = ((a ||| b : Nat) : Int) := by
  have h := Nat.or_lt_two_pow ha hb
  show IntKind.i64.wrap ((BitVec.ofInt 64 (a : Int) ||| BitVec.ofInt 64 (b : Int)).toNat : Int) = _
  rw [BitVec.toNat_or, BitVec.ofInt_natCast, BitVec.ofInt_natCast, BitVec.toNat_ofNat, BitVec.toNat_ofNat, Nat.mod_eq_of_lt (by omega), Nat.mod_eq_of_lt (by omega), IntKind.wrap_i64]
  omega
/-- Bits that don't meet are added. -/
theorem or_i64 (n Y P : Nat) (h0 : Y % 2 ^ n = 0) (h1 : P < 2 ^ n) (h2 : Y + P < 2 ^ 63) : bits .or .i64 (Y : Int) (P : Int) = ((Y + P : Nat) : Int) := by
  rw [i64_or_nat _ _ (by omega) (by omega), nat_join n Y P h0 h1]
theorem dcount_yes (n : Int) (w : World) (h0 : 1 ≤ n) (h1 : n ≤ 512) : Calls Tryd.prog 53 #[.int .i64 n] w fun e w' => e = .returned (.bool true) ∧ w = w' := by
  go_enter Tryd.func53, Tryd.ntmps53
  go_wp2
  go_ret
  exact ⟨rfl, rfl⟩
theorem dcount_no (n : Int) (w : World) (h : n < 1 ∨ 512 < n) : Calls Tryd.prog 53 #[.int .i64 n] w fun e w' => e = .returned (.bool false) ∧ w = w' := by
  rcases h with h | h
  · have h2 : decide (1 ≤ n) = false := by simp; omega
    go_enter Tryd.func53, Tryd.ntmps53
    go_wp2
    go_ret
    exact ⟨rfl, rfl⟩
  · have h2 : decide (n ≤ 512) = false := by simp; omega
    have h3 : decide (1 ≤ n) = true := by simp; omega
    go_enter Tryd.func53, Tryd.ntmps53
    go_wp2
    go_ret
    exact ⟨rfl, rfl⟩
theorem wof_fin : ∀ c : Fin 32, 0 < wof (c.val : Int) := by decide +kernel
theorem wof_zero {c : Int} : wof c = 0 ↔ ¬ (0 ≤ c ∧ c ≤ 31) := by
  constructor
  · rintro h ⟨h0, h1⟩
    obtain ⟨k, rfl⟩ := Int.eq_ofNat_of_zero_le h0
    have h2 := wof_fin ⟨k, by omega⟩
    dsimp only at h2
    rw [h] at h2
    exact absurd h2 (by decide)
  · intro h
    exact wof_out (by omega)
set_option maxHeartbeats 2000000 in
set_option maxRecDepth 100000 in
theorem dhead_own (k c m : Int) (w : World) (ht : WTab w) (hk : inInt k) (hc : inInt c) (hm : inInt m) : Calls Tryd.prog 27 #[.int .i64 k, .int .i64 c, .int .i64 m] w (RetH w (dhead k c m)) := by
  have HOF := Lib.hid (of_any c w ht hc.1 hc.2)
  by_cases h0 : k < 0
  · have d0 : decide (k < 0) = true := decide_eq_true h0
    have hE := Lib.hid (dhead_no (k := k) (c := c) (m := m) (by omega))
    clear ht
    go_enter Tryd.func27, Tryd.ntmps27
    go_wp2
    go_ret
    rw [hE.out]
    exact ⟨_, rfl, World.ownsRow_nil _ _ _ _, Below.refl _ _⟩
  · have d0 : decide (k < 0) = false := decide_eq_false h0
    by_cases h1 : 4 ≤ k
    · have d1 : decide (4 ≤ k) = true := decide_eq_true h1
      have hE := Lib.hid (dhead_no (k := k) (c := c) (m := m) (by omega))
      clear ht
      go_enter Tryd.func27, Tryd.ntmps27
      go_wp2
      go_ret
      rw [hE.out]
      exact ⟨_, rfl, World.ownsRow_nil _ _ _ _, Below.refl _ _⟩
    · have d1 : decide (4 ≤ k) = false := decide_eq_false h1
      obtain ⟨W, hW⟩ : ∃ W, W = wof c := ⟨_, rfl⟩
      have hz : W = 0 ↔ ¬ (0 ≤ c ∧ c ≤ 31) := by rw [hW]; exact wof_zero
      rw [← hW] at HOF
      clear hW ht
      by_cases h2 : W = 0
      · have hE := Lib.hid (dhead_no (k := k) (c := c) (m := m) (fun h => (hz.1 h2) ⟨h.2.2.1, h.2.2.2.1⟩))
        have d2 : (W == 0) = true := by simpa using h2
        clear h2 hz
        go_enter Tryd.func27, Tryd.ntmps27
        go_wp2_with (go_at_call 52; refine HOF.out.mono ?_; rintro e w' ⟨rfl, rfl⟩)
        go_ret
        rw [hE.out]
        exact ⟨_, rfl, World.ownsRow_nil _ _ _ _, Below.refl _ _⟩
      · have d2 : (W == 0) = false := by simpa using h2
        have hc2 : 0 ≤ c ∧ c ≤ 31 := Classical.not_not.1 (fun h => h2 (hz.2 h))
        clear h2 hz
        by_cases h3 : m < 1 ∨ 512 < m
        · have hE := Lib.hid (dhead_no (k := k) (c := c) (m := m) (by omega))
          have HC := Lib.hid (dcount_no m w h3)
          clear h3
          go_enter Tryd.func27, Tryd.ntmps27
          go_wp2_with (first | (go_at_call 52; refine HOF.out.mono ?_; rintro e w' ⟨rfl, rfl⟩) | (go_at_call 53; refine HC.out.mono ?_; rintro e w' ⟨rfl, rfl⟩))
          go_ret
          rw [hE.out]
          exact ⟨_, rfl, World.ownsRow_nil _ _ _ _, Below.refl _ _⟩
        · have HC := Lib.hid (dcount_yes m w (by omega) (by omega))
          obtain ⟨K, rfl⟩ := Int.eq_ofNat_of_zero_le (show 0 ≤ k by omega)
          obtain ⟨C, rfl⟩ := Int.eq_ofNat_of_zero_le (show 0 ≤ c by omega)
          obtain ⟨M, rfl⟩ := Int.eq_ofNat_of_zero_le (show 0 ≤ m by omega)
          have hK : K ≤ 3 := by omega
          have hC : C ≤ 31 := by omega
          have hM1 : 1 ≤ M := by omega
          have hM : M ≤ 512 := by omega
          obtain ⟨P, hP⟩ : ∃ P, M = P + 1 := ⟨M - 1, by omega⟩
          have hE := Lib.hid (dhead_in hK hC hM1 hM)
          obtain ⟨a1, ha1⟩ : ∃ a, a = 16384 * K := ⟨_, rfl⟩
          obtain ⟨a2, ha2⟩ : ∃ a, a = 512 * C := ⟨_, rfl⟩
          obtain ⟨Y, hY⟩ : ∃ Y, Y = a1 + a2 := ⟨_, rfl⟩
          obtain ⟨X, hX⟩ : ∃ X, X = Y + P := ⟨_, rfl⟩
          obtain ⟨H, hH⟩ : ∃ H, H = X / 256 := ⟨_, rfl⟩
          obtain ⟨Z, hZ⟩ : ∃ Z, Z = X % 256 := ⟨_, rfl⟩
          have s1 : IntKind.i64.wrap ((K : Int) * 2 ^ 14) = (a1 : Int) := by rw [IntKind.wrap_i64]; omega
          have s1' : (K : Int) * 16384 = (a1 : Int) := by omega
          have s2 : IntKind.i64.wrap ((C : Int) * 2 ^ 9) = (a2 : Int) := by rw [IntKind.wrap_i64]; omega
          have s2' : (C : Int) * 512 = (a2 : Int) := by omega
          have o1 : bits .or .i64 (a1 : Int) (a2 : Int) = (Y : Int) := by rw [hY]; exact or_i64 14 a1 a2 (by omega) (by omega) (by omega)
          have o2 : bits .or .i64 (Y : Int) (P : Int) = (X : Int) := by rw [hX]; exact or_i64 9 Y P (by omega) (by omega) (by omega)
          have hp : ((P + 1 : Nat) : Int) - 1 = (P : Int) := by omega
          have q1 : (X : Int) / 2 ^ 8 = (H : Int) := by omega
          have q1' : (X : Int) / 256 = (H : Int) := by omega
          have w1 : IntKind.u8.wrap (H : Int) = (H : Int) := by rw [IntKind.wrap_u8]; omega
          have w2 : IntKind.u8.wrap (X : Int) = (Z : Int) := by rw [IntKind.wrap_u8]; omega
          have HT := Lib.hid (dheadN_two (k := K) (c := C) (m := M) (X := X) (h := H) (y := Z) (by omega) hH hZ (by omega))
          subst hP
          have hown := own_new w 5 [.int .u8 (H : Int), .int .u8 (Z : Int)] 2 rfl (by omega)
          rw [← HT.out] at hown
          have HOWN := Lib.hid hown
          clear hown ha1 ha2 hY hX hH hZ hc2
          go_enter Tryd.func27, Tryd.ntmps27
          go_wp2_with (first | (go_at_call 52; refine HOF.out.mono ?_; rintro e w' ⟨rfl, rfl⟩) | (go_at_call 53; refine HC.out.mono ?_; rintro e w' ⟨rfl, rfl⟩))
          go_ret
          rw [hE.out]
          refine ⟨_, rfl, ?_, (Below.refl _ _).alloc (Nat.le_refl _) _⟩
          have h := HOWN.out
          rw [HT.out] at h
          rw [dheadN_len, HT.out]
          exact h
/-- Bytes that a call answers. -/
def RetS (w : World) (l : List UInt8) (e : Ending) (w' : World) : Prop := ∃ v, e = .returned v ∧ IsB l v w' ∧ Below w.heap.size w w'
theorem dhead_any (k c m : Int) (w : World) (ht : WTab w) (hk : inInt k) (hc : inInt c) (hm : inInt m) : Calls Tryd.prog 27 #[.int .i64 k, .int .i64 c, .int .i64 m] w (RetS w (dhead k c m)) :=
  (dhead_own k c m w ht hk hc hm).mono fun _ _ ⟨v, h1, h2, h3⟩ => ⟨v, h1, isB_own h2, h3⟩
/-- What read answers. -/
theorem dread_no (A : Option Addr) (n c : Nat) (w : World) (h : n < 2) : Calls Tryd.prog 59 #[.slice A n c] w fun e w' => e = .returned (.tuple #[.int .i64 0, .int .i64 0, .int .i64 0, .bool false]) ∧ Below w.heap.size w w' := by
  have d1 : decide ((n : Int) < 2) = true := decide_eq_true (by omega)
  go_enter Tryd.func59, Tryd.ntmps59
  go_wp2
  refine bodyPost_ret (results_tmp4 rfl _ _ _) rfl ?_
  exact ⟨rfl, Below.refl _ _⟩
set_option maxHeartbeats 2000000 in
theorem dread_yes (A : Option Addr) (n c K C M : Nat) (l : List UInt8) (w : World) (hl : Lies w A (l.map bv)) (hn : l.length = n) (h2 : 2 ≤ n) (hb : n ≤ 1000000)
    (hK : dlook l = ((K : Int), (C : Int), (M : Int), l.drop 2, 0)) : Calls Tryd.prog 59 #[.slice A n c] w fun e w' => e = .returned (.tuple #[.int .i64 (K : Int), .int .i64 (C : Int), .int .i64 (M : Int), .bool true]) ∧ Below w.heap.size w w' := by
  have d1 : decide ((n : Int) < 2) = false := decide_eq_false (by omega)
  have hl2 : 2 ≤ l.length := by omega
  obtain ⟨ad, rfl, _, hcell0⟩ := hl.cell (k := 0) (by rw [List.length_map]; omega)
  obtain ⟨_, hAd, _, hcell1⟩ := hl.cell (k := 1) (by rw [List.length_map]; omega)
  injection hAd with hAd
  subst hAd
  obtain ⟨x, hx⟩ : ∃ x : Nat, x = l[0].toNat := ⟨_, rfl⟩
  obtain ⟨y, hy⟩ : ∃ y : Nat, y = l[1].toNat := ⟨_, rfl⟩
  have hx8 : x < 256 := by rw [hx]; exact UInt8.toNat_lt _
  have hy8 : y < 256 := by rw [hy]; exact UInt8.toNat_lt _
  have hc0 : w.cell? ad = some (.int .u8 (x : Int)) := by
    have e : ad.add 0 = ad := by simp [Addr.add]
    rw [e] at hcell0
    rw [hcell0, List.getElem_map, hx]; rfl
  have hc1 : w.cell? ⟨ad.block, ad.off + 1, none⟩ = some (.int .u8 (y : Int)) := by
    have e : ad.add 1 = ⟨ad.block, ad.off + 1, none⟩ := by simp [Addr.add]
    rw [e] at hcell1
    rw [hcell1, List.getElem_map, hy]; rfl
  obtain ⟨X, hX⟩ : ∃ X, X = 256 * x + y := ⟨_, rfl⟩
  rw [dlook_long hl2 (show X = 256 * l[0].toNat + l[1].toNat by rw [hX, hx, hy])] at hK
  injection hK with hK1 hK
  injection hK with hK2 hK
  injection hK with hK3 _
  have k1 : X / 16384 = K := by omega
  have k2 : X / 512 % 32 = C := by omega
  have k3 : X % 512 + 1 = M := by omega
  obtain ⟨Y, hY⟩ : ∃ Y, Y = 256 * x := ⟨_, rfl⟩
  obtain ⟨Q, hQ⟩ : ∃ Q, Q = X / 512 := ⟨_, rfl⟩
  obtain ⟨P, hP⟩ : ∃ P, P = X % 512 := ⟨_, rfl⟩
  have v1 : IntKind.i64.wrap (x : Int) = (x : Int) := by rw [IntKind.wrap_i64]; omega
  have v2 : IntKind.i64.wrap (y : Int) = (y : Int) := by rw [IntKind.wrap_i64]; omega
  have s1 : IntKind.i64.wrap ((x : Int) * 2 ^ 8) = (Y : Int) := by rw [IntKind.wrap_i64]; omega
  have s1' : (x : Int) * 256 = (Y : Int) := by omega
  have o1 : bits .or .i64 (Y : Int) (y : Int) = (X : Int) := by rw [hX, ← hY]; exact or_i64 8 Y y (by omega) (by omega) (by omega)
  have q1 : (X : Int) / 2 ^ 14 = (K : Int) := by omega
  have q1' : (X : Int) / 16384 = (K : Int) := by omega
  have q2 : (X : Int) / 2 ^ 9 = (Q : Int) := by omega
  have q2' : (X : Int) / 512 = (Q : Int) := by omega
  have a1 : bits .and .i64 (Q : Int) 31 = (C : Int) := by rw [i64_and31_mod]; omega
  have a2 : bits .and .i64 (X : Int) 511 = (P : Int) := by
    have h := i64_mask (X : Int) 9 (by omega)
    rw [show ((2 ^ 9 - 1 : Nat) : Int) = 511 from rfl, show ((2 ^ 9 : Nat) : Int) = 512 from rfl] at h
    rw [h]; omega
  have p1 : (P : Int) + 1 = (M : Int) := by omega
  have hn0 : (0 : Int) < (n : Int) := by omega
  have hn1 : (1 : Int) < (n : Int) := by omega
  have hM : M ≤ 512 := by omega
  clear hX hx hy hY hQ hP k1 k2 k3 hK1 hK2 hK3 hl hn hl2 hcell0 hcell1
  go_enter Tryd.func59, Tryd.ntmps59
  go_wp2
  go_quiet (fail)
  go_wp2
  refine bodyPost_ret (results_tmp4 rfl _ _ _) rfl ?_
  exact ⟨rfl, below_drewN (Below.refl _ _) nq⟩
/-- Any bytes' head, or none. -/
theorem dlook_or (l : List UInt8) : (l.length < 2 ∧ dlook l = (0, 0, 0, [], 2)) ∨ (2 ≤ l.length ∧ ∃ K C M : Nat, K ≤ 3 ∧ C ≤ 31 ∧ 1 ≤ M ∧ M ≤ 512 ∧ dlook l = ((K : Int), (C : Int), (M : Int), l.drop 2, 0)) := by
  by_cases h : l.length < 2
  · exact .inl ⟨h, dlook_short h⟩
  · have h2 : 2 ≤ l.length := by omega
    have hx : l[0].toNat < 256 := UInt8.toNat_lt _
    have hy : l[1].toNat < 256 := UInt8.toNat_lt _
    exact .inr ⟨h2, _, _, _, by omega, by omega, by omega, by omega, dlook_long h2 rfl⟩
set_option maxHeartbeats 2000000 in
set_option maxRecDepth 100000 in
theorem dlook_any (l : List UInt8) (v : Value) (w : World) (hv : IsB l v w) (hb : l.length ≤ 1000000) : Calls Tryd.prog 35 #[v] w (RetK w (dlook l)) := by
  obtain ⟨A, c, rfl, hA, hnc, hcm, hl⟩ := hv
  obtain ⟨n, hn⟩ : ∃ n, n = l.length := ⟨_, rfl⟩
  rw [← hn] at hA hnc hb ⊢
  have hci : (c : Int) ≤ 9223372036854775807 := by unfold maxLen at hcm; omega
  rcases dlook_or l with ⟨h2, hd⟩ | ⟨h2, K, C, M, hK, hC, hM1, hM, hd⟩
  · have HR := Lib.hid (dread_no A n c w (by omega))
    have hE := Lib.hid hd
    clear hd hl hn hA
    go_enter Tryd.func35, Tryd.ntmps35
    go_wp2_with fail
    refine HR.out.mono ?_
    rintro e w1 ⟨rfl, hb1⟩
    go_wp2
    refine bodyPost_ret (results_tmp5 rfl _ _ _) rfl ?_
    rw [hE.out]
    exact ⟨_, rfl, isB_nil _, hb1⟩
  · rw [← hn] at h2
    have HR := Lib.hid (dread_yes A n c K C M l w hl hn.symm h2 hb hd)
    have hE := Lib.hid hd
    obtain ⟨N, hN⟩ : ∃ N, N = n - 2 := ⟨_, rfl⟩
    have HF := Lib.hid fun (W : World) (h : Below w.heap.size w W) => from_named (P := Tryd.prog) elemB (k := 2) (by omega) hnc hcm hn.symm (hl.below h) hA
    rw [show ((2 : Nat) : Int) = 2 from rfl] at HF
    have HPM := Lib.hid (show ((l.drop 2).map bv).length = N by rw [List.length_map, List.length_drop]; omega)
    have HL := Lib.hid (show (l.drop 2).length = N by rw [List.length_drop]; omega)
    have hN6 : N ≤ 1000000 := by omega
    clear hd hl hn hA hN
    go_enter Tryd.func35, Tryd.ntmps35
    go_wp2_with fail
    refine HR.out.mono ?_
    rintro e w1 ⟨rfl, hb1⟩
    obtain ⟨v3, hv3, A3, c3, e3, hA3, _, _, hl3⟩ := HF.out w1 hb1
    rw [HL.out] at e3 hA3
    subst e3
    have HB1 := Lib.hid hb1
    clear hb1
    go_wp2_with (first | (refine wpList_slicedL rfl _ _ _ rfl _ (hv3 _) ?_) | (at_builtin; refine wpList_join elemB rfl _ _ rfl w1.heap.size _ _ _ _ _ _ ((l.drop 2).map bv) w1 rfl rfl hA3 HPM.out hl3 (bv_one _) (World.ownsRow_nil _ _ _ _) (Below.refl _ _) (Nat.le_refl _) (by omega) (by omega) ?_))
    intro v5 w5 hown5 hb5 _ _
    rw [← List.map_drop] at hown5
    have HI5 := Lib.hid (show IsB (l.drop 2) v5 w5 from isB_own hown5)
    have HB5 := Lib.hid (below_then HB1.out hb5)
    clear hown5 hb5
    go_wp2
    refine bodyPost_ret (results_tmp5 rfl _ _ _) rfl ?_
    rw [hE.out]
    exact ⟨_, rfl, HI5.out, HB5.out⟩
/-- A row that is filled from the front with what a function makes of others. -/
def FillRel {α β : Type} (f : α → Option β) (enc : β → Value) (z : Value) (t : TypeId) (l : List α) (w : World) (i : Value) (wr : World) : Prop :=
  ∃ (k : Nat) (acc : List β), k ≤ l.length ∧ i = .int .i64 (k : Int) ∧ omap f (l.take k) = some acc ∧ Row wr w.heap.size t (acc.map enc ++ List.replicate (l.length - k) z) ∧ Below w.heap.size w wr
theorem fill_step {β : Type} {enc : β → Value} {z : Value} {acc : List β} {y : β} {n k : Nat} (hk : k < n) (ha : acc.length = k) : (acc.map enc ++ List.replicate (n - k) z).set k (enc y) = (acc ++ [y]).map enc ++ List.replicate (n - (k + 1)) z := by
  have hl : (acc.map enc).length = k := by rw [List.length_map, ha]
  rw [List.set_append_right _ _ (by omega), hl, Nat.sub_self, show n - k = n - (k + 1) + 1 by omega, List.replicate_succ, List.set_cons_zero, List.map_append, List.append_assoc]
  rfl
end Go.Proofs.YtchgpgnipmmflaaDoor

/- delta's own contracts: numbers. -/







namespace Go.Proofs.YtchgpgnipmmflaaDoor

open Go.RowKit

/-- Differences that all go one way. -/
def toward (f : Bool) (us : List Nat) : List (Nat × Bool) := us.map fun u => (u, f)
theorem gnext_step {s f : Bool} {x : Int} {u : Nat} {z : Int} {ok : Bool} (h : gstep x u f = (z, ok)) : gnext s f x u = if ok = true ∧ (s = true ∨ 0 ≤ z) then some z else none := by unfold gnext; rw [h]
theorem glast_get : ∀ (ys : List Int) (x : Int), (x :: ys)[ys.length]? = some (glast x ys)
  | [], _ => rfl
  | y :: ys, x => by rw [List.length_cons, List.getElem?_cons_succ, glast_get ys y]; rfl
/-- What numbers answers. -/
def RetNm (x : Int) (o : Option (List Int)) (w : World) (e : Ending) (w' : World) : Prop :=
  match o with
  | none => e = .returned (.tuple #[.slice none 0 0, .bool false]) ∧ Below w.heap.size w w'
  | some ys => ∃ v, e = .returned (.tuple #[v, .bool true]) ∧ IsV iv (x :: ys) v w' ∧ Below w.heap.size w w'
def NumRel (s f : Bool) (x : Int) (us : List Nat) (g : Nat) (w : World) (i : Value) (wr : World) : Prop := ∃ (k : Nat) (ys : List Int), k ≤ us.length ∧ i = .int .i64 (k : Int) ∧ gwalk s f x (us.take k) = some ys ∧
  Row wr g 3 ((x :: ys).map iv ++ List.replicate (us.length - k) (iv 0)) ∧ Below w.heap.size w wr
set_option maxHeartbeats 4000000 in
set_option maxRecDepth 100000 in
theorem numbers_any (s f : Bool) (x : Int) (us : List Nat) (v : Value) (w : World) (hv : IsR dc (toward f us) v w) (hx : inInt x) (hu : ∀ u ∈ us, u < 2 ^ 64) (hb : us.length ≤ 1000) :
    Calls Tryd.prog 38 #[.int .i64 x, v, .bool s] w (RetNm x (gwalk s f x us) w) := by
  obtain ⟨A, n, c, rfl⟩ := hv.shape
  have HN := Lib.hid (show us.length = n by have := hv.parts.1; unfold toward at this; rwa [List.length_map] at this)
  have HV := Lib.hid hv
  have HU := Lib.hid hu
  have HXI := Lib.hid hx
  have hn6 : n ≤ 1000 := by have := HN.out; omega
  have hni : IntKind.i64.wrap ((n : Int) + 1) = ((n + 1 : Nat) : Int) := by rw [IntKind.wrap_i64]; omega
  have hni2 : (n : Int) + 1 = ((n + 1 : Nat) : Int) := by omega
  have HNI := Lib.hid hni2
  clear hv hu hb hx hni2
  go_enter Tryd.func38, Tryd.ntmps38
  go_wp2_with (refine wpList_make elemI rfl _ _ rfl _ _ _ _ (n + 1) w w.heap.size rfl rfl rfl rfl (by omega) (by omega) (Below.refl _ _) (Nat.le_refl _) ?_)
  intro w2 hr2 hb2
  have hset := hr2.set_ 0 (iv x)
  have hfx := hr2.free 0
  have hcu : ∃ u, w2.cell? ⟨w.heap.size, 0, none⟩ = some u := by rw [hr2.cell]; exact ⟨_, List.getElem?_eq_getElem (by rw [List.length_replicate]; omega)⟩
  obtain ⟨u0, hcu⟩ := hcu
  have HS := Lib.hid (show NumRel s f x us w.heap.size w (.int .i64 0) (w2.setCell ⟨w.heap.size, 0, none⟩ (iv x)) from ⟨0, [], Nat.zero_le _, rfl, by rw [List.take_zero]; rfl, by
    rw [HN.out, Nat.sub_zero]; rw [List.replicate_succ, List.set_cons_zero] at hset; exact hset, hb2.setCell (p := ⟨w.heap.size, 0, none⟩) (Nat.le_refl _) _⟩)
  clear hset hb2 hr2
  unfold iv at HS
  go_wp2
  go_loopw [22] (NumRel s f x us w.heap.size w) (fun i _ => n - (intOf i).toNat)
  case atStart => exact HS.out
  case round =>
    clear hcu hfx
    obtain ⟨k, ys, hk, rfl, hwk, hrow, hbw⟩ := hrel
    have HWK := Lib.hid hwk
    have HYL := Lib.hid (show ys.length = k by rw [gwalk_len hwk, List.length_take]; omega)
    have HZ := Lib.hid (gwalk_last hwk HXI.out)
    rw [HN.out] at hrow
    have HROW := Lib.hid hrow
    have HB := Lib.hid hbw
    have hkn : k ≤ n := by have := HN.out; omega
    have hgw := hrow.lt
    clear hwk hrow hk
    by_cases hlt : k < n
    · have hkl : k < us.length := by have := HN.out; omega
      have hkt : k < (toward f us).length := by unfold toward; rw [List.length_map]; exact hkl
      have hlti : (k : Int) < (n : Int) := by omega
      obtain ⟨ad, rfl, had, hcell⟩ := (HV.out.below hbw).at (m := 2) dc_len (by omega) hkt
      obtain ⟨u, hue⟩ : ∃ u, u = us[k] := ⟨_, rfl⟩
      have hte : (toward f us)[k] = (u, f) := by
        have h : (toward f us)[k]? = some (u, f) := by unfold toward; rw [List.getElem?_map, List.getElem?_eq_getElem hkl, ← hue]; rfl
        rw [List.getElem?_eq_getElem hkt] at h
        injection h
      rw [hte] at hcell
      have k0 := cells2 hcell
      dsimp only at k0
      obtain ⟨k1, k2⟩ := k0
      have hu64 : (u : Int) < 18446744073709551616 := by have := HU.out u (by rw [hue]; exact List.getElem_mem hkl); omega
      obtain ⟨y, hy⟩ : ∃ y, y = glast x ys := ⟨_, rfl⟩
      rw [← hy] at HZ
      have HTK := Lib.hid (show us.take (k + 1) = us.take k ++ [u] by rw [List.take_succ_eq_append_getElem hkl, hue])
      have HSN := Lib.hid (show gwalk s f x (us.take (k + 1)) = match gnext s f y u with | none => none | some z => some (ys ++ [z]) by rw [HTK.out, gwalk_snoc, HWK.out]; dsimp only; rw [← hy]; rfl)
      obtain ⟨z, ok, hzo⟩ : ∃ z ok, gstep y u f = (z, ok) := ⟨_, _, rfl⟩
      have HST := Lib.hid (fun W => step_any y u f W HZ.out hu64)
      rw [hzo] at HST
      have HGN := Lib.hid (gnext_step (s := s) hzo)
      obtain ⟨W0, hW0⟩ : ∃ W0, W0 = wr.alloc (.cells #[.int .u64 (u : Int), .bool f] 45) := ⟨_, rfl⟩
      have HBA := Lib.hid (show Below wr.heap.size wr W0 by rw [hW0]; exact (Below.refl _ _).alloc (Nat.le_refl _) _)
      have HD := Lib.hid (show Row W0 wr.heap.size 45 (dc (u, f)) by rw [hW0]; exact heap_alloc_new wr _)
      have HCY := Lib.hid (show ∀ W, Below wr.heap.size wr W → W.cell? ((⟨w.heap.size, 0, none⟩ : Addr).add k) = some (.int .i64 y) from fun W hW => row_cells (HROW.out.below hW hgw) k _ (by
        rw [List.getElem?_append_left (by rw [List.length_map, List.length_cons, HYL.out]; omega), List.getElem?_map, ← HYL.out, glast_get, hy]; rfl))
      clear hcell hue hte hzo hu64 hy hbw
      go_wp2
      rw [← hW0]
      refine wp_region_list [.is (.slice (some ⟨w.heap.size, 0, none⟩) (n + 1) (n + 1)), .is (.int .i64 (k : Int)), .is (.pointer (some ((⟨w.heap.size, 0, none⟩ : Addr).add k))), .is (.int .i64 y), .is (dv (u, f)), .is (.tuple #[.int .i64 z, .bool ok]), .is (.tuple #[.int .i64 z, .bool ok]), .is (.int .i64 z), .is (.bool ok), .is (.int .i64 z), .is (.bool ok)]
        [some 28, some 29, some 30, some 31, some 32, some 33, some 27, some 34, some 35, some 11, some 12] (by kernel_rfl) (by kernel_rfl) (by kernel_rfl) rfl ⟨?_, ?_, ?_, ?_, ?_, ?_, ?_, ?_, ?_, ?_, ?_, trivial⟩ ?_
      · intro ρ W1 hb1 H
        exact gives_move rfl (H.old 8 _ (by kernel_rfl) rfl) ⟨rfl, Below.refl _ _⟩
      · intro ρ W1 hb1 H
        exact gives_move rfl (H.old 9 _ (by kernel_rfl) rfl) ⟨rfl, Below.refl _ _⟩
      · intro ρ W1 hb1 H
        exact gives_index elemI rfl (H.new 28 0 (by kernel_rfl)) (H.new 29 1 (by kernel_rfl)) (by omega) ⟨rfl, Below.refl _ _⟩
      · intro ρ W1 hb1 H
        exact gives_load rfl (H.new 30 2 (by kernel_rfl)) Tryd.underlying3 rfl (HCY.out W1 (HBA.out.trans (hb1.mono HBA.out.size))) ⟨rfl, Below.refl _ _⟩
      · intro ρ W1 hb1 H
        exact gives_load_row (cs := dc (u, f)) rfl (H.old 10 _ (by kernel_rfl) rfl) Tryd.underlying45 rfl sizeD (HD.out.below hb1 HD.out.lt) ⟨rfl, Below.refl _ _⟩
      · intro ρ W1 hb1 H
        have e0 : ρ (.tmp 31) = .int .i64 y := H.new 31 3 (by kernel_rfl)
        have e1 : ρ (.tmp 32) = dv (u, f) := H.new 32 4 (by kernel_rfl)
        refine gives_call rfl (fun _ _ => by kernel_rfl) (H.func _) (args := #[.int .i64 y, dv (u, f)]) (by simp [e0, e1]) ?_
        exact (HST.out W1).mono fun e w' ⟨h1, h2⟩ => ⟨_, h1, rfl, h2⟩
      · intro ρ W1 hb1 H
        exact gives_move rfl (H.new 33 5 (by kernel_rfl)) ⟨rfl, Below.refl _ _⟩
      · intro ρ W1 hb1 H
        exact gives_extract rfl (H.new 27 6 (by kernel_rfl)) rfl ⟨rfl, Below.refl _ _⟩
      · intro ρ W1 hb1 H
        exact gives_extract rfl (H.new 27 6 (by kernel_rfl)) rfl ⟨rfl, Below.refl _ _⟩
      · intro ρ W1 hb1 H
        exact gives_assign rfl (H.new 34 7 (by kernel_rfl)) ⟨rfl, Below.refl _ _⟩
      · intro ρ W1 hb1 H
        exact gives_assign rfl (H.new 35 8 (by kernel_rfl)) ⟨rfl, Below.refl _ _⟩
      · intro vs W1 hb1 hfs
        have f9 : vs 9 = .int .i64 z := hfs 9 (by decide)
        have f10 : vs 10 = .bool ok := hfs 10 (by decide)
        clear hfs
        simp only [putAll, Nat.zero_add, Nat.reduceAdd]
        generalize vs 0 = z0
        generalize vs 1 = z1
        generalize vs 2 = z2
        generalize vs 3 = z3
        generalize vs 4 = z4
        generalize vs 5 = z5
        generalize vs 6 = z6
        generalize vs 7 = z7
        generalize vs 8 = z8
        simp only [f9, f10, Act.put, List.setIfInBounds_toArray, List.set_cons_succ, List.set_cons_zero]
        have hbb := HBA.out.trans (hb1.mono HBA.out.size)
        have HB1 := Lib.hid (HB.out.trans (hbb.mono HB.out.size))
        have hrow1 := HROW.out.below hbb hgw
        have hset := hrow1.set_ (k + 1) (iv z)
        have hfx := hrow1.free (k + 1)
        have hcu : ∃ u, W1.cell? ⟨w.heap.size, k + 1, none⟩ = some u := by
          rw [hrow1.cell]
          exact ⟨_, List.getElem?_eq_getElem (by rw [List.length_append, List.length_map, List.length_cons, HYL.out, List.length_replicate]; omega)⟩
        obtain ⟨u0, hcu⟩ := hcu
        have hfill := fill_step (enc := iv) (z := iv 0) (acc := x :: ys) (y := z) (n := n + 1) (k := k + 1) (by omega) (by rw [List.length_cons, HYL.out])
        rw [show n + 1 - (k + 1) = n - k by omega, show n + 1 - (k + 1 + 1) = n - (k + 1) by omega] at hfill
        rw [hfill] at hset
        have HSET := Lib.hid hset
        have HB3 := Lib.hid (HB1.out.setCell (p := ⟨w.heap.size, k + 1, none⟩) (Nat.le_refl _) (iv z))
        unfold iv at HSET HB3
        clear f9 f10 hb1 hbb hrow1 hset hfill
        have hno : gnext s f y u = none → gwalk s f x us = none := fun h => gwalk_take_none (k := k + 1) (by rw [HSN.out, h])
        have HNO := Lib.hid hno
        clear hno
        cases ok with
        | false =>
          have HE := Lib.hid (HNO.out (by rw [HGN.out, if_neg (by rintro ⟨h, _⟩; cases h)]))
          go_wp2
          go_ret2
          rw [HE.out]
          exact ⟨rfl, HB1.out⟩
        | true =>
          by_cases hz : z < 0
          · have d3 : decide (z < 0) = true := decide_eq_true hz
            cases s with
            | false =>
              have HE := Lib.hid (HNO.out (by rw [HGN.out, if_neg (by rintro ⟨_, h | h⟩; cases h; omega)]))
              go_wp2
              go_ret2
              rw [HE.out]
              exact ⟨rfl, HB1.out⟩
            | true =>
              have HW2 := Lib.hid (show gwalk true f x (us.take (k + 1)) = some (ys ++ [z]) by rw [HSN.out, HGN.out, if_pos ⟨rfl, .inl rfl⟩])
              go_wp2
              go_roundw
              case rel => exact ⟨k + 1, ys ++ [z], hkl, by go_num, HW2.out, by rw [HN.out]; exact HSET.out, HB3.out⟩
              case measure => simp [intOf]; omega
          · have d3 : decide (z < 0) = false := decide_eq_false hz
            have HW2 := Lib.hid (show gwalk s f x (us.take (k + 1)) = some (ys ++ [z]) by rw [HSN.out, HGN.out, if_pos ⟨rfl, .inr (by omega)⟩])
            go_wp2
            go_roundw
            case rel => exact ⟨k + 1, ys ++ [z], hkl, by go_num, HW2.out, by rw [HN.out]; exact HSET.out, HB3.out⟩
            case measure => simp [intOf]; omega
    · obtain rfl : k = n := by omega
      have HE := Lib.hid HWK.out
      rw [List.take_of_length_le (by rw [HN.out]; exact Nat.le_refl _)] at HE
      have hr := HROW.out
      rw [Nat.sub_self, List.replicate_zero, List.append_nil] at hr
      have HI := Lib.hid (isV_row hr (show (x :: ys).length = k + 1 by rw [List.length_cons, HYL.out]) (by omega))
      clear hr
      go_wp2
      go_ret2
      rw [HE.out]
      exact ⟨_, rfl, HI.out, HB.out⟩
end Go.Proofs.YtchgpgnipmmflaaDoor

/- direct's Put and Take. -/





namespace Go.Proofs.YtchgpgnipmmflaaDoor

open Go.RowKit

theorem most_is {l : List Nat} {v : Value} {w : World} (h : IsV uv l v w) (hb : l.length ≤ 1000000) (h64 : ∀ x ∈ l, x < 2 ^ 64) : Calls Tryd.prog 47 #[v] w fun e w' => e = .returned (.int .i64 (wmost l : Int)) ∧ w = w' := by
  obtain ⟨A, c, rfl, h2, h3, h4, h5⟩ := h
  exact most_any A _ c l w h2 rfl h3 hb h5 h64
/-- What Unpack answers, as a fact of a region. -/
def Fact.taken (w0 : World) (us : List Nat) (q : List UInt8) (y : Int) : Fact := ⟨fun v w => ∃ u r, v = .tuple #[u, r, .int .i64 y] ∧ IsV uv us u w ∧ OwnB w0 q r w, fun _ _ _ ⟨u, r, h1, h2, h3⟩ hb => ⟨u, r, h1, h2.below hb, h3.below hb⟩⟩
def Fact.ownB (w0 : World) (q : List UInt8) : Fact := ⟨OwnB w0 q, fun _ _ _ h hb => h.below hb⟩
end Go.Proofs.YtchgpgnipmmflaaDoor

/- delta's own contracts: unpack. -/





namespace Go.Proofs.YtchgpgnipmmflaaDoor

open Go.RowKit

/-- What unpack answers: the sizes and the bytes behind, or none. -/
def RetUp (f : Bool) (o : Option (List Nat × List UInt8)) (w : World) (e : Ending) (w' : World) : Prop :=
  match o with
  | none => e = .returned (.tuple #[.slice none 0 0, .slice none 0 0, .bool false]) ∧ Below w.heap.size w w'
  | some p => ∃ u r, e = .returned (.tuple #[u, r, .bool true]) ∧ IsR dc (toward f p.1) u w' ∧ OwnB w p.2 r w' ∧ Below w.heap.size w w'
theorem reps_toward (m : Nat) (u : Nat) (f : Bool) : reps m (u, f) = (toward f (List.replicate m u)).flatMap dc := by unfold reps toward; rw [List.map_replicate]
theorem toward_len (f : Bool) (us : List Nat) : (toward f us).length = us.length := by unfold toward; rw [List.length_map]
set_option maxHeartbeats 4000000 in
set_option maxRecDepth 100000 in
theorem unpack_bad (A : Value) (C M d : Int) (w : World) (hd : inInt d) (hg : (gdiff 0 d).2.2 = false) :
    Calls Tryd.prog 37 #[A, .int .i64 C, .int .i64 M, .int .i64 d] w (RetUp (gdiff 0 d).2.1 none w) := by
  have HB := Lib.hid (between_any 0 d w (by unfold inInt; omega) hd)
  unfold RetBt at HB
  rw [hg] at HB
  obtain ⟨x, hx⟩ : ∃ x, x = dpair (gdiff 0 d) := ⟨_, rfl⟩
  rw [← hx] at HB
  obtain ⟨xu, xf⟩ := x
  unfold dv dc at HB
  dsimp only at HB
  clear hx hd hg
  go_enter Tryd.func37, Tryd.ntmps37
  go_wp2_with (go_at_call 19; refine HB.out.mono ?_; rintro e w1 ⟨rfl, hb1⟩)
  go_ret3
  exact ⟨rfl, hb1.alloc hb1.size _⟩
set_option maxHeartbeats 4000000 in
set_option maxRecDepth 100000 in
theorem unpack_zero (v : Value) (M : Nat) (d : Int) (u0 : Nat) (f : Bool) (w : World) (hM2 : 2 ≤ M) (hM : M ≤ 512) (hd : inInt d) (hx : gdiff 0 d = (u0, f, true)) :
    Calls Tryd.prog 37 #[v, .int .i64 0, .int .i64 (M : Int), .int .i64 d] w (fun e w' =>
      ∃ u, e = .returned (.tuple #[u, v, .bool true]) ∧ IsR dc (toward f (List.replicate (M - 1) u0)) u w' ∧ Below w.heap.size w w') := by
  have HB := Lib.hid (between_any 0 d w (by unfold inInt; omega) hd)
  unfold RetBt at HB
  rw [hx] at HB
  unfold dpair dv dc at HB
  dsimp only at HB
  clear hx hd
  obtain ⟨m, hm⟩ : ∃ m, M = m + 1 := ⟨M - 1, by omega⟩
  subst hm
  have e1 : m + 1 - 1 = m := by omega
  rw [e1]
  have hmi1 : IntKind.i64.wrap (((m + 1 : Nat) : Int) - 1) = (m : Int) := by rw [IntKind.wrap_i64]; omega
  have HRP := Lib.hid (fun w1 : World => repeat_any (u0, f) (w1.heap.size + 1) 1 m ((w1.alloc (.cells #[.int .u64 (u0 : Int), .bool f] 45)).alloc (.cells #[.int .u64 (u0 : Int), .bool f] 45)) (by
    have h := heap_alloc_new (w1.alloc (.cells #[.int .u64 (u0 : Int), .bool f] 45)) (.cells #[.int .u64 (u0 : Int), .bool f] 45)
    rw [show (w1.alloc (.cells #[.int .u64 (u0 : Int), .bool f] 45)).heap.size = w1.heap.size + 1 by simp] at h
    exact h) (by omega) (by omega))
  clear e1
  go_enter Tryd.func37, Tryd.ntmps37
  go_wp2_with fail
  refine HB.out.mono ?_
  rintro e w1 ⟨rfl, hb1⟩
  have HB2 := Lib.hid ((hb1.alloc hb1.size (.cells #[.int .u64 (u0 : Int), .bool f] 45)).alloc (by simp; have := hb1.size; omega) (.cells #[.int .u64 (u0 : Int), .bool f] 45))
  clear hb1
  go_wp2_with (go_at_call 62; refine (HRP.out w1).mono ?_)
  rintro e w2 ⟨g, rfl, hg, hr, hb2⟩
  rw [reps_toward] at hr
  have HI := Lib.hid (isR_row hr (by rw [toward_len, List.length_replicate]) (by omega))
  have HB3 := Lib.hid (below_then HB2.out hb2)
  clear hr hb2 hg
  go_wp2
  go_ret3
  exact ⟨_, rfl, HI.out, HB3.out⟩
/-- The row of differences, the first k sizes behind the first one laid. -/
def UnpRel9 (f : Bool) (u0 : Nat) (us : List Nat) (g : Nat) (w w3 : World) (i : Value) (wr : World) : Prop := ∃ k : Nat, k ≤ us.length ∧ i = .int .i64 (k : Int) ∧
  Row wr g 45 ((toward f (u0 :: us.take k)).flatMap dc ++ reps (us.length - k) (u0, f)) ∧ Below w.heap.size w wr ∧ w3.grownBy wr (some g)
theorem up_set {f : Bool} {u0 : Nat} {us : List Nat} {k : Nat} (h : k < us.length) : ((toward f (u0 :: us.take k)).flatMap dc ++ reps (us.length - k) (u0, f)).set ((k + 1) * 2) (.int .u64 (us[k] : Int)) =
    (toward f (u0 :: us.take (k + 1))).flatMap dc ++ reps (us.length - (k + 1)) (u0, f) := by
  have hl : ((toward f (u0 :: us.take k)).flatMap dc).length = (k + 1) * 2 := by rw [dflat_len, toward_len, List.length_cons, List.length_take]; congr 1; omega
  have hr : reps (us.length - k) (u0, f) = dc (u0, f) ++ reps (us.length - (k + 1)) (u0, f) := by
    rw [show us.length - k = 1 + (us.length - (k + 1)) by omega, reps_add]; rfl
  have ht : (toward f (u0 :: us.take (k + 1))).flatMap dc = (toward f (u0 :: us.take k)).flatMap dc ++ dc (us[k], f) := by
    rw [List.take_succ_eq_append_getElem h]
    unfold toward
    rw [← List.cons_append, List.map_append, List.flatMap_append]
    rfl
  rw [List.set_append_right _ _ (by omega), hl, Nat.sub_self, hr, ht, List.append_assoc]
  rfl
set_option maxHeartbeats 4000000 in
set_option maxRecDepth 100000 in
theorem unpack_more (r : List UInt8) (v : Value) (C M : Nat) (d : Int) (u0 : Nat) (f : Bool) (w : World) (ht : WTab w) (hv : IsB r v w) (hb : r.length ≤ 1000000) (hC1 : 1 ≤ C) (hC : C ≤ 31) (hM2 : 2 ≤ M) (hM : M ≤ 512) (hd : inInt d) (hx : gdiff 0 d = (u0, f, true)) :
    Calls Tryd.prog 37 #[v, .int .i64 (C : Int), .int .i64 (M : Int), .int .i64 d] w
      (RetUp f (if (unpacksAny r (M - 2 : Nat) (wof C)).2.2 = 0 then some (u0 :: (unpacksAny r (M - 2 : Nat) (wof C)).1, (unpacksAny r (M - 2 : Nat) (wof C)).2.1) else none) w) := by
  have HB := Lib.hid (between_any 0 d w (by unfold inInt; omega) hd)
  unfold RetBt at HB
  rw [hx] at HB
  unfold dpair dv dc at HB
  dsimp only at HB
  clear hx hd
  obtain ⟨m, hm⟩ : ∃ m, m = M - 2 := ⟨_, rfl⟩
  obtain ⟨p, hp⟩ : ∃ p, p = M - 1 := ⟨_, rfl⟩
  rw [← hm]
  have HPM := Lib.hid (show p = m + 1 by omega)
  have hmi1 : IntKind.i64.wrap ((M : Int) - 1) = (p : Int) := by rw [IntKind.wrap_i64]; omega
  have hmi2 : IntKind.i64.wrap ((M : Int) - 2) = (m : Int) := by rw [IntKind.wrap_i64]; omega
  have hmi3 : (M : Int) - 1 = (p : Int) := by omega
  have hmi4 : (M : Int) - 2 = (m : Int) := by omega
  have HRP := Lib.hid (fun w1 : World => repeat_any (u0, f) (w1.heap.size + 1) 1 p ((w1.alloc (.cells #[.int .u64 (u0 : Int), .bool f] 45)).alloc (.cells #[.int .u64 (u0 : Int), .bool f] 45)) (by
    have h := heap_alloc_new (w1.alloc (.cells #[.int .u64 (u0 : Int), .bool f] 45)) (.cells #[.int .u64 (u0 : Int), .bool f] 45)
    rw [show (w1.alloc (.cells #[.int .u64 (u0 : Int), .bool f] 45)).heap.size = w1.heap.size + 1 by simp] at h
    exact h) (by omega) (by omega))
  have HT := Lib.hid ht
  have HV := Lib.hid hv
  have hc0 : ((C : Int) == 0) = false := by simp; omega
  obtain ⟨W, hW⟩ : ∃ W, W = wof (C : Int) := ⟨_, rfl⟩
  have HOF := Lib.hid (fun W1 (h : WTab W1) => of_any (C : Int) W1 h (by omega) (by omega))
  rw [← hW] at HOF ⊢
  obtain ⟨us, q, y, hu⟩ : ∃ us q y, unpacksAny r (m : Int) W = (us, q, y) := ⟨_, _, _, rfl⟩
  have HUN := Lib.hid (fun W1 (h : IsB r v W1) => unpack_isO (m : Int) W h hb)
  rw [hu] at HUN ⊢
  unfold RetUO at HUN
  dsimp only at HUN ⊢
  have HUL := Lib.hid (show y = 0 → us.length = m from fun hy => by subst hy; exact (unpacksAny_len hu).1)
  obtain ⟨o, ho⟩ : ∃ o, o = (if y = 0 then some (u0 :: us, q) else none) := ⟨_, rfl⟩
  have HO := Lib.hid ho
  rw [← ho]
  clear ho hu hW ht hv hb hC1 hM2 hm hp
  go_enter Tryd.func37, Tryd.ntmps37
  go_wp2_with fail
  refine HB.out.mono ?_
  rintro e w1 ⟨rfl, hb1⟩
  have HB2 := Lib.hid ((hb1.alloc hb1.size (.cells #[.int .u64 (u0 : Int), .bool f] 45)).alloc (by simp; have := hb1.size; omega) (.cells #[.int .u64 (u0 : Int), .bool f] 45))
  clear hb1
  go_wp2_with (go_at_call 62; refine (HRP.out w1).mono ?_)
  rintro e w2 ⟨g, rfl, hg, hr, hb2⟩
  have HROW := Lib.hid hr
  have hgw := hr.lt
  have HB3 := Lib.hid (below_then HB2.out hb2)
  have hwg : w.heap.size ≤ g := Nat.le_trans HB2.out.size hg
  clear hr hb2 hg
  have HT2 := Lib.hid (HT.out.below HB3.out HT.out.lt)
  go_wp2_with (first | (go_at_call 52; refine (HOF.out _ HT2.out).mono ?_; rintro e w' ⟨rfl, rfl⟩) | (go_at_call 63; refine (HUN.out _ (HV.out.below HB3.out)).mono ?_))
  rintro e w3 ⟨su, sr, rfl, hsu, hsr, hb3⟩
  by_cases hy : y = 0
  · subst hy
    have HO1 : Hid (o = some (u0 :: us, q)) := Lib.hid (by rw [HO.out, if_pos rfl])
    have HUM := Lib.hid (HUL.out rfl)
    have hn := own_shape hsu
    obtain ⟨SB, sc, rfl, hs1, hs2, _, hs4, hs5⟩ := hn
    have HSU := Lib.hid hsu
    rw [HUM.out] at HSU
    have HSR := Lib.hid hsr
    have HB4 := Lib.hid (below_then HB3.out hb3)
    have HROW3 := Lib.hid (HROW.out.below hb3 hgw)
    have hgw3 := HROW3.out.lt
    rw [HUM.out]
    clear hsu hsr hs1 hs2 hs4 hs5
    have HS := Lib.hid (show UnpRel9 f u0 us g w w3 (.int .i64 0) w3 from ⟨0, Nat.zero_le _, rfl, by
      have h := HROW3.out
      rw [HPM.out, Nat.add_comm m 1, reps_add] at h
      rw [List.take_zero, HUM.out, Nat.sub_zero]
      exact h, HB4.out, World.grownBy.refl _ _⟩)
    clear hb3
    go_wp2
    go_loopw [49] (UnpRel9 f u0 us g w w3) (fun i _ => m - (intOf i).toNat)
    case atStart => exact HS.out
    case round =>
      obtain ⟨k, hk, rfl, hrow, hbw, hgr⟩ := hrel
      have HRW := Lib.hid hrow
      have HBW := Lib.hid hbw
      have HGR := Lib.hid hgr
      have hkm : k ≤ m := by have := HUM.out; omega
      have hgwr := hrow.lt
      clear hrow hbw hgr hk
      by_cases hlt : k < m
      · have hkl : k < us.length := by have := HUM.out; omega
        have hlti : (k : Int) < (m : Int) := by omega
        have hkp : (k : Int) + 1 < (p : Int) := by have := HPM.out; omega
        have hV : IsV uv us (.slice SB m sc) wr := isV_own (own_past HSU.out HGR.out hgw)
        obtain ⟨ad, rfl, had, hcell⟩ := hV.at hkl
        obtain ⟨u, hue⟩ : ∃ u, u = us[k] := ⟨_, rfl⟩
        rw [← hue] at hcell
        unfold uv at hcell
        have hset := HRW.out.set_ ((k + 1) * 2) (.int .u64 (us[k] : Int))
        rw [up_set hkl, ← hue] at hset
        have HSET := Lib.hid hset
        have hfx := HRW.out.free ((k + 1) * 2)
        have hcu : ∃ u, wr.cell? ⟨g, (k + 1) * 2, none⟩ = some u := by
          rw [HRW.out.cell]
          exact ⟨_, List.getElem?_eq_getElem (by rw [List.length_append, dflat_len, toward_len, List.length_cons, List.length_take, reps_len]; omega)⟩
        obtain ⟨c0, hcu⟩ := hcu
        have HBS := Lib.hid (HBW.out.setCell (p := ⟨g, (k + 1) * 2, none⟩) hwg (.int .u64 (u : Int)))
        have HGS := Lib.hid (HGR.out.trans (grown_set wr g ((k + 1) * 2) (.int .u64 (u : Int))))
        clear hset hV hue
        go_wp2
        go_roundw
        case rel => exact ⟨k + 1, hkl, by go_num, HSET.out, HBS.out, HGS.out⟩
        case measure => simp [intOf]; omega
      · obtain rfl : k = m := by omega
        have hr := HRW.out
        rw [HUM.out, Nat.sub_self, List.take_of_length_le (by rw [HUM.out]; exact Nat.le_refl _), show reps 0 (u0, f) = [] from rfl, List.append_nil] at hr
        have HI := Lib.hid (isR_row hr (show (toward f (u0 :: us)).length = p by rw [toward_len, List.length_cons, HUM.out, HPM.out]) (by have := HPM.out; omega))
        obtain ⟨nq, hq⟩ := HSR.out
        have HQ := Lib.hid (show OwnB w q sr wr from ⟨nq, own_base (Nat.le_trans HB3.out.size (Nat.le_refl _)) (own_past hq HGR.out hgw)⟩)
        clear hr hq
        go_wp2
        go_ret3
        rw [HO1.out]
        exact ⟨_, _, rfl, HI.out, HQ.out, HBW.out⟩
  · have hy2 : (y != 0) = true := by simpa using hy
    have HO1 : Hid (o = none) := Lib.hid (by rw [HO.out, if_neg hy])
    have HB4 := Lib.hid (below_then HB3.out hb3)
    clear hsu hsr hb3 hy
    go_wp2
    go_ret3
    rw [HO1.out]
    exact ⟨rfl, HB4.out⟩
end Go.Proofs.YtchgpgnipmmflaaDoor

/- delta's own contracts: pack. -/





namespace Go.Proofs.YtchgpgnipmmflaaDoor

open Go.RowKit

def sizesOf (l : List (Nat × Bool)) : List Nat := l.map (·.1)
theorem wide_fin : ∀ n : Fin 65, max 2 (wclosest (n.val : Int)) = wclosest ((max 2 n.val : Nat) : Int) := by decide +kernel
theorem omap_fst (l : List (Nat × Bool)) : omap (fun d : Nat × Bool => some d.1) l = some (sizesOf l) := by
  induction l with
  | nil => rfl
  | cons x l ih => unfold omap; rw [ih]; rfl
/-- What pack answers. -/
def RetPk (w : World) (c : Nat) (p : List UInt8) (e : Ending) (w' : World) : Prop := ∃ v, e = .returned (.tuple #[.int .i64 (c : Int), v, .int .i64 0]) ∧ IsB p v w' ∧ Below w.heap.size w w'
theorem pack_same (l : List (Nat × Bool)) (v : Value) (w : World) (hv : IsR dc l v w) (hb : l.length ≤ 1000000) (hs : dsame l = true) : Calls Tryd.prog 25 #[v] w (RetPk w 0 []) := by
  have HA := Lib.hid (aresame_any l v w hv hb)
  rw [hs] at HA
  clear hv hb hs
  go_enter Tryd.func25, Tryd.ntmps25
  go_wp2_with fail
  refine HA.out.mono ?_
  rintro e w1 ⟨rfl, hb1⟩
  go_wp2
  go_ret3
  exact ⟨_, rfl, isB_nil _, hb1⟩
set_option maxHeartbeats 4000000 in
set_option maxRecDepth 100000 in
theorem pack_more (l : List (Nat × Bool)) (v : Value) (w : World) (ht : WTab w) (hv : IsR dc l v w) (h1 : 1 ≤ l.length) (hb : l.length ≤ 511) (hs : dsame l = false) (hu : ∀ d ∈ l, d.1 < 2 ^ 63) :
    Calls Tryd.prog 25 #[v] w (RetPk w (gcode (sizesOf l.tail)) (bpack (sizesOf l.tail) (gwide (sizesOf l.tail)))) := by
  have HA := Lib.hid (aresame_any l v w hv (by omega))
  rw [hs] at HA
  obtain ⟨A, n, c, rfl⟩ := hv.shape
  have HN := Lib.hid hv.parts.1
  have HV := Lib.hid hv
  obtain ⟨m, hm⟩ : ∃ m, n = m + 1 := ⟨n - 1, by have := HN.out; omega⟩
  subst hm
  have hm6 : m ≤ 510 := by have := HN.out; omega
  have HT := Lib.hid ht
  obtain ⟨q, hq⟩ : ∃ q, q = l.tail := ⟨_, rfl⟩
  have HQ := Lib.hid (show l.drop 1 = q by rw [hq, List.drop_one])
  have HQL := Lib.hid (show q.length = m by rw [hq, List.length_tail]; have := HN.out; omega)
  have HU := Lib.hid (show ∀ x ∈ sizesOf q, x < 2 ^ 64 by
    intro x hx
    obtain ⟨d, hd, rfl⟩ := List.mem_map.1 hx
    have := hu d (List.mem_of_mem_tail (hq ▸ hd))
    exact Nat.lt_trans this (by decide))
  rw [← hq]
  clear hs hu hb h1 hv ht hq
  obtain ⟨v2, hv2, hi2⟩ := fromR_named (P := Tryd.prog) elemD dc_len (k := 1) (by omega) HV.out
  rw [show ((1 : Nat) : Int) = 1 from rfl] at hv2
  rw [HQ.out] at hi2
  obtain ⟨A2, n2, c2, rfl⟩ := hi2.shape
  have hn2 : n2 = m := by have := hi2.parts.1; have := HQL.out; omega
  subst hn2
  have HI2 := Lib.hid hi2
  clear hi2
  have hmi : IntKind.i64.wrap (((n2 + 1 : Nat) : Int) - 1) = (n2 : Int) := by rw [IntKind.wrap_i64]; omega
  go_enter Tryd.func25, Tryd.ntmps25
  go_wp2_with fail
  refine HA.out.mono ?_
  rintro e w1 ⟨rfl, hb1⟩
  have HB1 := Lib.hid hb1
  clear hb1 HA
  go_wp2_with (refine wpList_make elemU rfl _ _ rfl _ _ _ _ n2 w1 w1.heap.size rfl rfl rfl rfl (by omega) (by omega) (Below.refl _ _) (Nat.le_refl _) ?_)
  intro w2 hr2 hb2
  have HS := Lib.hid (show FillRel (fun d : Nat × Bool => some d.1) uv (uv 0) 23 q w1 (.int .i64 0) w2 from ⟨0, [], by omega, rfl, rfl, by rw [Nat.sub_zero, HQL.out]; simpa [uv] using hr2, hb2⟩)
  clear hb2 hr2
  go_wp2_with (refine wpList_slicedL rfl _ _ _ rfl _ (hv2 _) ?_)
  go_loopw [20] (FillRel (fun d : Nat × Bool => some d.1) uv (uv 0) 23 q w1) (fun i _ => n2 - (intOf i).toNat)
  case atStart => exact HS.out
  case round =>
    obtain ⟨k, acc, hk, rfl, hacc, hr, hbw⟩ := hrel
    have hz := hbw.size
    have hal : acc.length = k := by rw [omap_len hacc, List.length_take]; omega
    rw [HQL.out] at hr
    have HACC := Lib.hid hacc
    have HAL := Lib.hid hal
    have hk' : k ≤ n2 := by have := HQL.out; omega
    clear hacc hal hk
    by_cases hlt : k < n2
    · have hkl : k < q.length := by have := HQL.out; omega
      have hlti : (k : Int) < (n2 : Int) := by omega
      obtain ⟨ad, rfl, had, hcell⟩ := (HI2.out.below (HB1.out.trans (hbw.mono HB1.out.size))).at (m := 2) dc_len (by omega) hkl
      obtain ⟨x, hx⟩ : ∃ x, x = q[k] := ⟨_, rfl⟩
      rw [← hx] at hcell
      have k0 := cells2 hcell
      have HN2 := Lib.hid (omap_take (f := fun d : Nat × Bool => some d.1) hkl HACC.out (by rw [← hx]))
      obtain ⟨xu, xf⟩ := x
      dsimp only at k0 HN2
      obtain ⟨k1, k2⟩ := k0
      have hra := hr.alloc (.cells #[.int .u64 (xu : Int), .bool xf] 45)
      have hfx := hra.free k
      have hgr := hr.lt
      have hcu : ∃ u, (wr.alloc (.cells #[.int .u64 (xu : Int), .bool xf] 45)).cell? ⟨w1.heap.size, k, none⟩ = some u := by
        rw [hra.cell]
        exact ⟨_, List.getElem?_eq_getElem (by rw [List.length_append, List.length_map, List.length_replicate]; have := HAL.out; omega)⟩
      obtain ⟨u0, hcu⟩ := hcu
      have hset := hr.set_ k (uv xu)
      rw [fill_step hlt HAL.out] at hset
      have hset := hset.alloc (.cells #[.int .u64 (xu : Int), .bool xf] 45)
      have HSET := Lib.hid hset
      have HB3 := Lib.hid ((hbw.setCell (p := ⟨w1.heap.size, k, none⟩) (Nat.le_refl _) (uv xu)).alloc (by rw [World.size_setCell]; exact hbw.size) (.cells #[.int .u64 (xu : Int), .bool xf] 45))
      clear hset hr hra hbw hz hx hcell
      unfold uv at HB3 HSET
      go_wp2
      go_roundw
      case rel => exact ⟨k + 1, acc ++ [xu], hkl, by go_num, HN2.out, by rw [HQL.out]; exact HSET.out, HB3.out⟩
      case measure => simp [intOf]; omega
    · obtain rfl : k = n2 := by omega
      have he : acc = sizesOf q := by
        have h := HACC.out
        rw [List.take_of_length_le (by rw [HQL.out]; exact Nat.le_refl _), omap_fst] at h
        injection h with h
        exact h.symm
      subst he
      have hlen : (sizesOf q).length = k := by unfold sizesOf; rw [List.length_map, HQL.out]
      obtain ⟨us, hus⟩ : ∃ us, us = sizesOf q := ⟨_, rfl⟩
      rw [← hus] at hr hlen HU
      have HUS := Lib.hid hus
      rw [Nat.sub_self, List.replicate_zero, List.append_nil] at hr
      have HI := Lib.hid (isV_row hr hlen (by omega))
      have hlies := hr.lies 0
      rw [List.drop_zero] at hlies
      have HM := Lib.hid (most_any (some ⟨w1.heap.size, 0, none⟩) k k us wr (fun h => by cases h) hlen (Nat.le_refl _) (by omega) hlies HU.out)
      obtain ⟨g1, g2, _, g4, g5, g6, g7, g8⟩ := gwide_int HU.out
      have hmx : max 2 (wclosest (wmost us : Int)) = (gwide us : Int) := by
        rw [← g1]
        have := wide_fin ⟨wmost us, by have := wmost_64 HU.out; omega⟩
        exact this
      have HTW := Lib.hid (HT.out.below (HB1.out.trans (hbw.mono HB1.out.size)) HT.out.lt)
      have HC := Lib.hid (closest_any (wmost us : Int) wr HTW.out)
      obtain ⟨C, hC⟩ : ∃ C, C = wclosest (wmost us : Int) := ⟨_, rfl⟩
      rw [← hC] at HC hmx
      obtain ⟨M, hM⟩ : ∃ M, M = (wmost us : Int) := ⟨_, rfl⟩
      rw [← hM] at HM HC
      have hmax : ∀ (ts : Array TypeId) (t : TypeId) (W : World), (Builtin.max_ ts t #[.int .i64 2, .int .i64 C]).run Tryd.prog W = .ok (.int .i64 (gwide us : Int)) W := fun ts t W => by
        rw [run_max_int2]
        congr 2
        rw [← hmx]
        split <;> omega
      obtain ⟨W, hW⟩ : ∃ W, W = gwide us := ⟨_, rfl⟩
      have HPK := Lib.hid (pack_is (W : Int) (v := .slice (some ⟨w1.heap.size, 0, none⟩) k k) (w := wr) HI.out (by omega) HU.out)
      rw [packsAny_in _ _ (by omega), hW, packs_ok (gwide_room HU.out), ← hW] at HPK
      rw [← hW] at hmax g2
      have HWW := Lib.hid hW
      have HCD := Lib.hid (fun w => code_any (W : Int) w)
      rw [g2] at HCD
      have HB4 := Lib.hid (HB1.out.trans (hbw.mono HB1.out.size))
      clear hr hbw hlies hmx hC hM hW g1 g2 g4 g5 g6 g7 g8 hlen hus hz
      go_wp2_with (first | (go_at_call 47; refine HM.out.mono ?_; rintro e w' ⟨rfl, rfl⟩) | (go_at_call 46; refine HC.out.mono ?_; rintro e w' ⟨rfl, rfl⟩) | (go_at_call 48; refine HPK.out.mono ?_))
      rintro e w5 ⟨v5, rfl, hi5, hb5⟩
      have HI5 := Lib.hid hi5
      have HB5 := Lib.hid (below_then HB4.out hb5)
      have HT5 := Lib.hid (HTW.out.below hb5 HTW.out.lt)
      clear hi5 hb5
      go_wp2_with (go_at_call 49; refine (HCD.out _ HT5.out).mono ?_; rintro e w' ⟨rfl, rfl⟩)
      go_ret3
      rw [← HUS.out, ← HWW.out]
      exact ⟨_, rfl, HI5.out, HB5.out⟩
end Go.Proofs.YtchgpgnipmmflaaDoor

/- What delta's Put does, as plain mathematics: its differences against the sizes of XTPlain. -/





namespace Go.Proofs.YtchgpgnipmmflaaDoor

open Go.RowKit

theorem gdiff_ok {a b : Int} (h : (gdiff a b).2.2 = true) : (gdiff a b).2.1 = decide (b < a) ∧ ((gdiff a b).1 = 0 → (gdiff a b).2.1 = false) := by
  rcases gdiff_cases a b with ⟨k, _⟩ | ⟨k1, k2, k⟩ | ⟨k1, k2, k⟩
  · rw [k] at h; cases h
  · rw [k]; exact ⟨(decide_eq_true k1).symm, fun h => by dsimp only at h; omega⟩
  · rw [k]; exact ⟨(decide_eq_false (by omega)).symm, fun _ => rfl⟩
theorem dplain_neg {l : List Int} {x : Int} (hx : x ∈ l) (h : x < 0) : dplain l false = none := omap_none hx (by unfold eplain; rw [if_neg (by decide), if_neg (by omega)])
theorem dplain_some {l : List Int} {s : Bool} (h : s = true ∨ ∀ x ∈ l, 0 ≤ x) : dplain l s ≠ none := by
  unfold dplain
  induction l with
  | nil => simp [omap]
  | cons x l ih =>
    have h1 : ∃ u, eplain x s = some u := by
      unfold eplain
      rcases h with h | h
      · rw [if_pos h]; exact ⟨_, rfl⟩
      · have := h x List.mem_cons_self
        split
        · exact ⟨_, rfl⟩
        · first | exact ⟨_, rfl⟩ | (rw [if_pos this]; exact ⟨_, rfl⟩)
    obtain ⟨u, hu⟩ := h1
    have h2 := ih (h.imp id fun h y hy => h y (List.mem_cons_of_mem _ hy))
    rw [omap, hu]
    dsimp only
    cases hr : omap (eplain · s) l with
    | none => exact absurd hr h2
    | some r => simp
theorem omap_every {α β : Type} {f : α → Option β} {g : α → β} : ∀ {l : List α}, (∀ x ∈ l, f x = some (g x)) → omap f l = some (l.map g)
  | [], _ => rfl
  | x :: l, h => by
    rw [omap, h x List.mem_cons_self, omap_every fun y hy => h y (List.mem_cons_of_mem _ hy)]
    rfl
section

variable {l : List Int} {k : Nat}
theorem gat_bad {f : Bool} {i : Nat} (h : (diffAt l i).2.2 = false) : gat l f i = none := gone_not (by unfold diffAt at h; rw [h]; simp)
theorem gpairs_get (i : Nat) (h : i < k) : (gpairs l k)[i]? = some (dpair (diffAt l i)) := by
  unfold gpairs
  rw [List.getElem?_map, List.getElem?_range h]
  rfl
theorem gpairs_mem {d : Nat × Bool} (h : d ∈ gpairs l k) : ∃ i, i < k ∧ d = dpair (diffAt l i) := by
  obtain ⟨i, hi, rfl⟩ := List.mem_map.1 h
  exact ⟨i, List.mem_range.1 hi, rfl⟩
theorem gpairs_head (h : 0 < k) : (gpairs l k).headD (0, false) = dpair (diffAt l 0) := by
  have h1 := gpairs_get (l := l) 0 h
  cases hg : gpairs l k with
  | nil => rw [hg] at h1; cases h1
  | cons a t => rw [hg] at h1; injection h1
/-- All are differences, and go one way: these are the sizes. -/
theorem gsizes_way (hk : 0 < k) (hok : ∀ i, i < k → (diffAt l i).2.2 = true) (hw : dway (gpairs l k) = true) : gsizes l (gfalls l) k = some (sizesOf (gpairs l k)) := by
  unfold gsizes sizesOf gpairs
  rw [List.map_map]
  refine omap_every fun i hi => ?_
  have hi := List.mem_range.1 hi
  have h0 := gdiff_ok (hok 0 hk)
  have hf : gfalls l = (diffAt l 0).2.1 := h0.1.symm
  unfold dway at hw
  rw [gpairs_head hk] at hw
  have h1 : dturns (dpair (diffAt l 0)).2 (dpair (diffAt l i)) = false := by
    have h2 : ((gpairs l k).any (dturns (dpair (diffAt l 0)).2)) = false := by simpa using hw
    rw [List.any_eq_false] at h2
    have h3 := h2 _ (List.mem_of_getElem? (gpairs_get (l := l) i hi))
    simpa using h3
  refine gone_yes (hok i hi) ?_
  rw [hf]
  unfold dturns dpair at h1
  dsimp only at h1
  by_cases hz : (diffAt l i).1 = 0
  · exact .inl hz
  · right
    have h4 : ((diffAt l i).1 != 0) = true := by simpa using hz
    rw [h4, Bool.true_and] at h1
    show (diffAt l i).2.1 = (diffAt l 0).2.1
    simpa using h1
/-- One goes another way: these are no sizes. -/
theorem gsizes_turn (hk : 0 < k) (hok : ∀ i, i < k → (diffAt l i).2.2 = true) (hw : dway (gpairs l k) = false) : gsizes l (gfalls l) k = none := by
  unfold dway at hw
  rw [gpairs_head hk] at hw
  have h2 : ((gpairs l k).any (dturns (dpair (diffAt l 0)).2)) = true := by simpa using hw
  obtain ⟨d, hd, ht⟩ := List.any_eq_true.1 h2
  obtain ⟨i, hi, rfl⟩ := gpairs_mem hd
  have hf : gfalls l = (diffAt l 0).2.1 := (gdiff_ok (hok 0 hk)).1.symm
  refine gsizes_none hi (gone_not ?_)
  rw [hf]
  unfold dturns dpair at ht
  dsimp only at ht
  rw [Bool.and_eq_true] at ht
  rintro ⟨_, h | h⟩
  · unfold diffAt at ht; rw [h] at ht; simp at ht
  · unfold diffAt at ht; rw [h] at ht; unfold diffAt at ht; simp at ht
/-- All differences are the same just where all sizes are. -/
theorem dsame_all (hk : 0 < k) (hok : ∀ i, i < k → (diffAt l i).2.2 = true) (hw : dway (gpairs l k) = true) : dsame (gpairs l k) = gall (sizesOf (gpairs l k)) := by
  have hhead := gpairs_head (l := l) hk
  have hs : (sizesOf (gpairs l k)).headD 0 = ((gpairs l k).headD (0, false)).1 := by unfold sizesOf; cases gpairs l k <;> rfl
  unfold dsame gall
  rw [hs]
  unfold sizesOf
  rw [List.all_map]
  rw [Bool.eq_iff_iff, List.all_eq_true, List.all_eq_true]
  constructor
  · intro h d hd
    have h1 : d = (gpairs l k).headD (0, false) := by simpa using h d hd
    show ((d.1 == ((gpairs l k).headD (0, false)).1)) = true
    rw [← h1]; simp
  · intro h d hd
    have h1 : d.1 = ((gpairs l k).headD (0, false)).1 := by have := h d hd; simpa using this
    have h2 : d.2 = ((gpairs l k).headD (0, false)).2 := by
      by_cases hz : d.1 = 0
      · have ha : ∀ e ∈ gpairs l k, e.1 = 0 → e.2 = false := by
          intro e he h0
          obtain ⟨i, hi, rfl⟩ := gpairs_mem he
          exact (gdiff_ok (hok i hi)).2 h0
        rw [ha d hd hz]
        have hm : (gpairs l k).headD (0, false) ∈ gpairs l k := by rw [hhead]; exact List.mem_of_getElem? (gpairs_get (l := l) 0 hk)
        exact (ha _ hm (by rw [← h1]; exact hz)).symm
      · unfold dway at hw
        have h3 : ((gpairs l k).any (dturns ((gpairs l k).headD (0, false)).2)) = false := by simpa using hw
        rw [List.any_eq_false] at h3
        have h4 := h3 d hd
        unfold dturns at h4
        have h5 : (d.1 != 0) = true := by simpa using hz
        rw [h5, Bool.true_and] at h4
        simpa using h4
    have h3 : d = (gpairs l k).headD (0, false) := Prod.ext h1 h2
    rw [← h3]; simp
theorem sizes_lt : ∀ d ∈ gpairs l k, d.1 < 2 ^ 63 := by
  intro d hd
  obtain ⟨i, _, rfl⟩ := gpairs_mem hd
  have := gdiff_lt (l.getD i 0) (l.getD (i + 1) 0)
  show (gdiff (l.getD i 0) (l.getD (i + 1) 0)).1 < 9223372036854775808
  omega
theorem first_step (hk : 0 < k) (hok : ∀ i, i < k → (diffAt l i).2.2 = true) : gstep 0 (diffAt l 0).1 (diffAt l 0).2.1 = (gfirst l (sizesOf (gpairs l k)), true) := by
  have hs : (sizesOf (gpairs l k)).headD 0 = (diffAt l 0).1 := by
    have h := gpairs_head (l := l) hk
    have h2 : (sizesOf (gpairs l k)).headD 0 = ((gpairs l k).headD (0, false)).1 := by unfold sizesOf; cases gpairs l k <;> rfl
    rw [h2, h]; rfl
  have hf : gfalls l = (diffAt l 0).2.1 := (gdiff_ok (hok 0 hk)).1.symm
  have hlt := gdiff_lt (l.getD 0 0) (l.getD (0 + 1) 0)
  unfold gfirst
  rw [hs, hf]
  unfold gstep
  rw [if_neg (by unfold diffAt; omega)]
  cases hb : (diffAt l 0).2.1 with
  | true =>
    simp only [if_true]
    rw [if_neg (by unfold diffAt; omega)]; congr 1; omega
  | false =>
    simp only [Bool.false_eq_true, if_false]
    rw [if_neg (by unfold diffAt; omega)]; congr 1; omega
theorem sizes_tail : sizesOf (gpairs l k).tail = (sizesOf (gpairs l k)).tail := by unfold sizesOf; rw [List.map_tail]
end

end Go.Proofs.YtchgpgnipmmflaaDoor

/- delta's own contracts: Put. -/



namespace Go.Proofs.YtchgpgnipmmflaaDoor

open Go.RowKit

theorem gtail_same {us : List Nat} (h : gall us = true) : gtail us = [] ∧ gnum us = 0 := ⟨by unfold gtail; rw [if_pos h], by unfold gnum; rw [if_pos h]⟩
theorem gtail_more {us : List Nat} (h : gall us = false) : gtail us = bpack us.tail (gwide us.tail) ∧ gnum us = gcode us.tail := by
  have h2 : ¬ gall us = true := by rw [h]; decide
  exact ⟨by unfold gtail; rw [if_neg h2], by unfold gnum; rw [if_neg h2]⟩
/-- pack, of differences that go one way. -/
theorem tpack_any (l : List Int) (m : Nat) (v : Value) (w : World) (ht : WTab w) (hd : IsR dc (gpairs l m) v w) (h1 : 1 ≤ m) (h5 : m ≤ 511) (hs : dsame (gpairs l m) = gall (sizesOf (gpairs l m))) :
    Calls Tryd.prog 25 #[v] w (RetPk w (gnum (sizesOf (gpairs l m))) (gtail (sizesOf (gpairs l m)))) := by
  cases h : gall (sizesOf (gpairs l m)) with
  | true =>
    rw [(gtail_same h).1, (gtail_same h).2]
    exact pack_same _ v w hd (by rw [gpairs_len]; omega) (by rw [hs, h])
  | false =>
    rw [(gtail_more h).1, (gtail_more h).2, ← sizes_tail]
    exact pack_more _ v w ht hd (by rw [gpairs_len]; omega) (by rw [gpairs_len]; omega) (by rw [hs, h]) sizes_lt
theorem gnum_le {us : List Nat} (h : ∀ u ∈ us, u < 2 ^ 64) : gnum us ≤ 31 := by
  unfold gnum
  split
  · omega
  · exact (gwide_int fun u hu => h u (List.mem_of_mem_tail hu)).2.2.2.2.2.2.1
/-- A tail is short. -/
theorem gtail_short {us : List Nat} (hl : us.length ≤ 512) (h : ∀ u ∈ us, u < 2 ^ 64) : (gtail us).length ≤ 5000 := by
  unfold gtail
  split
  · simp
  · rw [bpack_len]
    have h1 : (us.tail).length ≤ 512 := by rw [List.length_tail]; omega
    have h2 := (gwide_int fun u hu => h u (List.mem_of_mem_tail hu)).2.2.2.2.1
    exact Nat.le_trans (bsize_small h1 h2) (by omega)
set_option maxHeartbeats 8000000 in
set_option maxRecDepth 100000 in
theorem tput_own (l : List Int) (v : Value) (s : Bool) (w : World) (ht : WTab w) (hv : IsV iv l v w) (hl : ∀ x ∈ l, inInt x) (hb : l.length ≤ 1000000) : Calls Tryd.prog 14 #[v, .bool s] w (RetEO w (gputE l s)) := by
  obtain ⟨A, n, c, rfl⟩ := hv.shape
  have hn := hv.len
  by_cases h2 : n < 2 ∨ 512 < n
  · have hE := Lib.hid (gputE_no (s := s) (.inr (by rw [← hn]; exact h2) : dplain l s = none ∨ l.length < 2 ∨ 512 < l.length))
    have HC := Lib.hid (tcount_no (n : Int) w (by omega))
    clear hv hl hb hn h2 ht
    go_enter Tryd.func14, Tryd.ntmps14
    go_wp2_with (go_at_call 21; refine HC.out.mono ?_; rintro e w' ⟨rfl, rfl⟩)
    go_ret2
    rw [hE.out]
    exact RetEO.nil _ (Below.refl _ _)
  · have HN := Lib.hid hn
    have HV := Lib.hid hv
    have HT := Lib.hid ht
    have HL := Lib.hid hl
    have HC := Lib.hid (tcount_yes (n : Int) w (by omega) (by omega))
    have hn2 : 2 ≤ n := by omega
    have hn5 : n ≤ 512 := by omega
    obtain ⟨m, hm⟩ : ∃ m, m = n - 1 := ⟨_, rfl⟩
    have HM := Lib.hid (show l.length - 1 = m by omega)
    have hm1 : 1 ≤ m := by omega
    have hm5 : m ≤ 511 := by omega
    have HL0 := Lib.hid (show inInt (l.headD 0) by
      cases l with
      | nil => unfold inInt; simp
      | cons a t => exact hl a List.mem_cons_self)
    have hne : l ≠ [] := by rintro rfl; simp at hn; omega
    have HMIN := Lib.hid (min_any l (.slice A n c) w hv (by omega) hb)
    have HNEG := Lib.hid (lmin_neg hne)
    obtain ⟨mn, hmn⟩ : ∃ mn, mn = lmin l := ⟨_, rfl⟩
    rw [← hmn] at HMIN HNEG
    have HDF := Lib.hid (diffs_any l (.slice A n c) w hv hl (by omega) hb)
    clear hv ht hl hb h2 hn hne hmn hm
    cases s with
    | true =>
      have HPL := Lib.hid (dplain_some (l := l) (s := true) (.inl rfl))
      go_enter Tryd.func14, Tryd.ntmps14
      go_wp2_with (first | (go_at_call 21; refine HC.out.mono ?_; rintro e w' ⟨rfl, rfl⟩) | (go_at_call 22; refine HMIN.out.mono ?_; rintro e w' ⟨rfl, rfl⟩) | (go_at_call 23; refine HDF.out.mono ?_))
      rintro e w1 (⟨hok, dv1, rfl, hd1, hb1⟩ | ⟨⟨i, hi, hbad⟩, rfl, hb1⟩)
      · have HOK := Lib.hid (show ∀ i, i < m → (diffAt l i).2.2 = true from fun i hi => hok i (by have := HN.out; have := HM.out; omega))
        rw [HM.out] at hd1
        obtain ⟨DA, dn, dcap, rfl⟩ := hd1.shape
        have hdn : dn = m := by have := hd1.parts.1; rw [gpairs_len] at this; omega
        subst hdn
        have HD1 := Lib.hid hd1
        have HB1 := Lib.hid hb1
        have HT1 := Lib.hid (HT.out.below hb1 HT.out.lt)
        have HWAY := Lib.hid (way_any (gpairs l dn) (.slice DA dn dcap) w1 hd1 (by rw [gpairs_len]; exact hm1) (by rw [gpairs_len]; omega))
        clear hok hd1 hb1
        cases hway : dway (gpairs l dn) with
        | false =>
          have hE := Lib.hid (gputE_none (s := true) (show gsizes l (gfalls l) (l.length - 1) = none by rw [HM.out]; exact gsizes_turn hm1 HOK.out hway))
          rw [hway] at HWAY
          clear hway
          go_wp2_with (go_at_call 24; refine HWAY.out.mono ?_; rintro e w2 ⟨rfl, hb2⟩)
          go_ret2
          rw [hE.out]
          exact RetEO.nil _ (below_then HB1.out hb2)
        | true =>
          have HSZ := Lib.hid (gsizes_way hm1 HOK.out hway)
          have HSM := Lib.hid (dsame_all hm1 HOK.out hway)
          have hst := first_step hm1 HOK.out
          have hE := gputE_some (s := true) HPL.out (by have := HN.out; omega) (by have := HN.out; omega) (show gsizes l (gfalls l) (l.length - 1) = some (sizesOf (gpairs l dn)) by rw [HM.out]; exact HSZ.out)
          have hfi := (gfirst_diff (l := l) (us := sizesOf (gpairs l dn)) (by have := HN.out; omega) (by rw [HM.out]; exact HSZ.out)).2
          have h64 := gsizes_64 HSZ.out
          have HPK := Lib.hid (fun (w : World) ht hd => tpack_any l dn (.slice DA dn dcap) w ht hd hm1 (by omega) HSM.out)
          have hgn := gnum_le h64
          have HTB := Lib.hid (gtail_short (us := sizesOf (gpairs l dn)) (by rw [show (sizesOf (gpairs l dn)).length = dn by unfold sizesOf; rw [List.length_map, gpairs_len]]; omega) h64)
          unfold glay at hE
          obtain ⟨us, hus⟩ : ∃ us, us = sizesOf (gpairs l dn) := ⟨_, rfl⟩
          rw [← hus] at hE hst hfi HPK hgn HTB
          obtain ⟨G, hG⟩ : ∃ G, G = gnum us := ⟨_, rfl⟩
          obtain ⟨tl, htl⟩ : ∃ tl, tl = gtail us := ⟨_, rfl⟩
          obtain ⟨x1, hx1⟩ : ∃ x1, x1 = gfirst l us := ⟨_, rfl⟩
          obtain ⟨x0, hx0⟩ : ∃ x0, x0 = l.headD 0 := ⟨_, rfl⟩
          rw [← hG, ← htl, ← hx1, ← hx0, ← HN.out] at hE
          rw [← hG, ← htl] at HPK
          rw [← hG] at hgn
          rw [← htl] at HTB
          rw [← hx1] at hst hfi
          obtain ⟨u0, f0, ok0, hd0⟩ : ∃ u0 f0 ok0, diffAt l 0 = (u0, f0, ok0) := ⟨_, _, _, rfl⟩
          have hu0 : (u0 : Int) < 18446744073709551616 := by have h := gdiff_lt (l.getD 0 0) (l.getD (0 + 1) 0); unfold diffAt at hd0; rw [hd0] at h; dsimp only at h; omega
          rw [hd0] at hst
          have HSP := Lib.hid (fun (w : World) => step_any 0 u0 f0 w (by unfold inInt; omega) hu0)
          rw [hst] at HSP
          unfold RetG at HSP
          have HE2 := Lib.hid hE
          have HX1 := Lib.hid hfi
          have HG31 := Lib.hid hgn
          have HX0 := Lib.hid (show inInt x0 by rw [hx0]; exact HL0.out)
          have HC0 := Lib.hid (show ∀ W, Below w.heap.size w W → ∃ ad, A = some ad ∧ ad.block < W.heap.size ∧ W.cell? (ad.add 0) = some (.int .i64 x0) from fun W hW => by
            obtain ⟨ad, e1, e2, e3⟩ := (HV.out.below hW).at (k := 0) (by have := HN.out; omega)
            refine ⟨ad, e1, e2, ?_⟩
            rw [e3, hx0]
            cases l with
            | nil => have := HN.out; simp at this; omega
            | cons a t => rfl)
          have HDC := Lib.hid (show ∀ W, IsR dc (gpairs l dn) (.slice DA dn dcap) W → ∃ ad, DA = some ad ∧ ad.block < W.heap.size ∧ W.cell? ad = some (.int .u64 (u0 : Int)) ∧ W.cell? ⟨ad.block, ad.off + 1, none⟩ = some (.bool f0) from fun W hW => by
            obtain ⟨ad, e1, e2, e3⟩ := hW.at (m := 2) dc_len (by omega) (k := 0) (by rw [gpairs_len]; exact hm1)
            have e4 : (gpairs l dn)[0]? = some (u0, f0) := by rw [gpairs_get 0 hm1, hd0]; rfl
            rw [List.getElem?_eq_getElem (by rw [gpairs_len]; exact hm1)] at e4
            injection e4 with e4
            rw [e4] at e3
            have k0 := cells2 e3
            rw [Nat.zero_mul] at k0
            have ha0 : ad.add 0 = ad := by simp [Addr.add]
            rw [ha0] at k0
            exact ⟨ad, e1, e2, k0.1, k0.2⟩)
          rw [hway] at HWAY
          clear hway hE hst hfi h64 hgn hus hG htl hx1 hx0 hd0 hu0
          go_wp2_with fail
          refine HWAY.out.mono ?_
          rintro e w2 ⟨rfl, hb2⟩
          have HB2 := Lib.hid (below_then HB1.out hb2)
          have HT2 := Lib.hid (HT1.out.below hb2 HT1.out.lt)
          have HD2 := Lib.hid (HD1.out.below hb2)
          clear hb2
          go_wp2_with fail
          refine (HPK.out w2 HT2.out HD2.out).mono ?_
          rintro e w3 ⟨pv, rfl, hp3, hb3⟩
          have HB3 := Lib.hid (below_then HB2.out hb3)
          have HT3 := Lib.hid (HT2.out.below hb3 HT2.out.lt)
          have HP3 := Lib.hid hp3
          obtain ⟨da, rfl, hda, hdc1, hdc2⟩ := HDC.out w3 (HD2.out.below hb3)
          clear hb3 hp3
          have ha0 : da.add 0 = da := by simp [Addr.add]
          go_wp2_with fail
          refine (HSP.out w3).mono ?_
          rintro e w4 ⟨rfl, hb4⟩
          have HB4 := Lib.hid (below_then HB3.out hb4)
          have HT4 := Lib.hid (HT3.out.below hb4 HT3.out.lt)
          have HP4 := Lib.hid (IsB.below HP3.out hb4)
          clear hb4 hdc1 hdc2 hda ha0
          go_wp2
          obtain ⟨ad, rfl, had, _⟩ := HC0.out w4 HB4.out
          refine wp_region_list [.is (.int .i64 (G : Int)), .is (.slice (some ad) n c), .is (.int .i64 (n : Int)), .bytes (dheadN 3 G n), .is (.slice (some ad) n c), .is (.pointer (some (ad.add 0))), .is (.int .i64 x0), .is (.bool true), .bytes (dheadN 3 G n ++ vput (vint x0 true)), .bytes (dheadN 3 G n ++ vput (vint x0 true))] [some 55, some 56, some 57, some 58, some 59, some 60, some 61, some 62, some 63, some 13] (by kernel_rfl) (by kernel_rfl) (by kernel_rfl) rfl ⟨?_, ?_, ?_, ?_, ?_, ?_, ?_, ?_, ?_, ?_, trivial⟩ ?_
          · intro ρ W1 hb1 H
            exact gives_move rfl (H.old 8 _ (by kernel_rfl) rfl) ⟨rfl, Below.refl _ _⟩
          · intro ρ W1 hb1 H
            exact gives_move rfl (H.old 0 _ (by kernel_rfl) rfl) ⟨rfl, Below.refl _ _⟩
          · intro ρ W1 hb1 H
            exact gives_len Tryd.underlying30 rfl (H.new 56 1 (by kernel_rfl)) ⟨rfl, Below.refl _ _⟩
          · intro ρ W1 hb1 H
            have e0 : ρ (.tmp 55) = .int .i64 (G : Int) := H.new 55 0 (by kernel_rfl)
            have e1 : ρ (.tmp 57) = .int .i64 (n : Int) := H.new 57 2 (by kernel_rfl)
            refine gives_call rfl (fun _ _ => by kernel_rfl) (H.func _) (args := #[.int .i64 3, .int .i64 (G : Int), .int .i64 (n : Int)]) (by simp [e0, e1, H.const]) ?_
            have hG := HG31.out
            refine (dhead_any 3 (G : Int) (n : Int) W1 (HT4.out.below hb1 HT4.out.lt) (by unfold inInt; omega) (by unfold inInt; omega) (by unfold inInt; omega)).mono ?_
            rintro e w' ⟨u, h1, h2, h3⟩
            rw [show ((3 : Int)) = ((3 : Nat) : Int) from rfl, dhead_in (by omega) hG (by omega) (by omega)] at h2
            exact ⟨_, h1, h2, h3⟩
          · intro ρ W1 hb1 H
            exact gives_move rfl (H.old 0 _ (by kernel_rfl) rfl) ⟨rfl, Below.refl _ _⟩
          · intro ρ W1 hb1 H
            exact gives_index (k := 0) elemI rfl (H.new 59 4 (by kernel_rfl)) (H.const _) (by omega) ⟨rfl, Below.refl _ _⟩
          · intro ρ W1 hb1 H
            obtain ⟨ad', e1, _, e2⟩ := HC0.out W1 (below_then HB4.out hb1)
            injection e1 with e1
            subst e1
            exact gives_load rfl (H.new 60 5 (by kernel_rfl)) Tryd.underlying3 rfl e2 ⟨rfl, Below.refl _ _⟩
          · intro ρ W1 hb1 H
            exact gives_move rfl (H.old 1 _ (by kernel_rfl) rfl) ⟨rfl, Below.refl _ _⟩
          · intro ρ W1 hb1 H
            have e0 : IsB (dheadN 3 G n) (ρ (.tmp 58)) W1 := H.new 58 3 (by kernel_rfl)
            have e1 : ρ (.tmp 61) = .int .i64 x0 := H.new 61 6 (by kernel_rfl)
            have e2 : ρ (.tmp 62) = .bool true := H.new 62 7 (by kernel_rfl)
            obtain ⟨hv, hhv⟩ : ∃ hv, hv = ρ (.tmp 58) := ⟨_, rfl⟩
            rw [← hhv] at e0
            refine gives_call rfl (fun _ _ => by kernel_rfl) (H.func _) (args := #[hv, .int .i64 x0, .bool true]) (by simp [hhv, e1, e2]) ?_
            exact (putInt_isB x0 true e0 (by rw [dheadN_len]; omega) HX0.out.1 HX0.out.2).mono fun e w' ⟨u, h1, h2, h3⟩ => ⟨_, h1, h2, h3⟩
          · intro ρ W1 hb1 H
            exact gives_assign rfl rfl ⟨H.new 63 8 (by kernel_rfl), Below.refl _ _⟩
          · intro vs W1 hb1 hfs
            have f9 : IsB (dheadN 3 G n ++ vput (vint x0 true)) (vs 9) W1 := hfs 9 (by decide)
            clear hfs
            simp only [putAll, Nat.zero_add, Nat.reduceAdd]
            generalize vs 0 = z0
            generalize vs 1 = z1
            generalize vs 2 = z2
            generalize vs 3 = z3
            generalize vs 4 = z4
            generalize vs 5 = z5
            generalize vs 6 = z6
            generalize vs 7 = z7
            generalize vs 8 = z8
            generalize vs 9 = z9 at f9 ⊢
            simp only [Act.put, List.setIfInBounds_toArray, List.set_cons_succ, List.set_cons_zero]
            have HO := Lib.hid f9
            have HBa := Lib.hid (below_then HB4.out hb1)
            have HP5 := Lib.hid (IsB.below HP4.out hb1)
            have HLN := Lib.hid (show (dheadN 3 G n ++ vput (vint x0 true)).length ≤ 1000 by rw [List.length_append, dheadN_len]; have := vput_len_10 (x := vint x0 true) (vint_64 HX0.out); omega)
            clear f9 hb1
            go_wp2_with fail
            refine (putInt_isO x1 true HO.out (by have := HLN.out; omega) HX1.out.1 HX1.out.2).mono ?_
            rintro e w6 ⟨v6, rfl, hown6, hb6⟩
            have hp6 := IsB.below HP5.out hb6
            obtain ⟨A7, n7, c7, rfl⟩ := IsV.shape (f := bv) hp6
            obtain ⟨hn7, hA7, -, -, hl7⟩ := IsV.parts (f := bv) (show IsV bv _ _ _ from hp6)
            have hM7 : (tl.map bv).length = n7 := by rw [List.length_map]; exact hn7
            have hn7b : n7 ≤ 5000 := by rw [← hn7]; exact HTB.out
            have HM7 := Lib.hid hM7
            have hzz6 := hb6.size
            obtain ⟨K6, hK6⟩ : ∃ K, K = (dheadN 3 G n ++ vput (vint x0 true) ++ vput (vint x1 true)).length := ⟨_, rfl⟩
            have hK6b : K6 ≤ 2000 := by rw [hK6, List.length_append]; have := vput_len_10 (x := vint x1 true) (vint_64 HX1.out); have := HLN.out; omega
            rw [← hK6] at hown6
            have HK6 := Lib.hid hK6
            obtain ⟨xs6, hx6⟩ : ∃ xs, xs = (dheadN 3 G n ++ vput (vint x0 true) ++ vput (vint x1 true)).map bv := ⟨_, rfl⟩
            rw [← hx6] at hown6
            have HX6 := Lib.hid hx6
            clear hp6 hM7 hn7 hK6 hx6
            go_wp2_with (at_builtin; refine wpList_join elemB rfl _ _ rfl W1.heap.size _ _ _ _ _ _ (tl.map bv) W1 rfl rfl hA7 HM7.out hl7 (bv_one _) hown6 hb6 hzz6 (by omega) (by omega) ?_)
            intro v8 w8 hown8 hb8 _ _
            have HI9 := Lib.hid (show w8.ownsRow w.heap.size 5 1 v8 (dheadN 3 G n ++ vput (vint x0 true) ++ vput (vint x1 true) ++ tl).length ((dheadN 3 G n ++ vput (vint x0 true) ++ vput (vint x1 true) ++ tl).map bv) by
              rw [List.map_append, ← HX6.out, List.length_append, ← HK6.out, show tl.length = n7 by have := HM7.out; rwa [List.length_map] at this]
              exact own_base HBa.out.size hown8)
            have HB9 := Lib.hid (below_then HBa.out hb8)
            clear hown8 hb8 hown6 hzz6
            go_wp2
            go_ret2
            rw [HE2.out]
            exact ⟨_, rfl, HI9.out, HB9.out⟩
      · have hE := Lib.hid (gputE_none (s := true) (show gsizes l (gfalls l) (l.length - 1) = none from gsizes_none (k := i) (by omega) (gat_bad hbad)))
        clear hi hbad
        go_wp2
        go_ret2
        rw [hE.out]
        exact RetEO.nil _ hb1
    | false =>
      by_cases h0 : mn < 0
      · have d0 : decide (mn < 0) = true := decide_eq_true h0
        have hE := Lib.hid (gputE_no (l := l) (s := false) (.inl (by obtain ⟨x, hx, hx0⟩ := HNEG.out.1 h0; exact dplain_neg hx hx0)))
        clear h0
        go_enter Tryd.func14, Tryd.ntmps14
        go_wp2_with (first | (go_at_call 21; refine HC.out.mono ?_; rintro e w' ⟨rfl, rfl⟩) | (go_at_call 22; refine HMIN.out.mono ?_; rintro e w' ⟨rfl, rfl⟩))
        go_ret2
        rw [hE.out]
        exact RetEO.nil _ (Below.refl _ _)
      have d0 : decide (mn < 0) = false := decide_eq_false h0
      have HPL := Lib.hid (dplain_some (l := l) (s := false) (.inr fun x hx => by
        by_cases h : x < 0
        · exact absurd (HNEG.out.2 ⟨x, hx, h⟩) h0
        · omega))
      clear h0
      go_enter Tryd.func14, Tryd.ntmps14
      go_wp2_with (first | (go_at_call 21; refine HC.out.mono ?_; rintro e w' ⟨rfl, rfl⟩) | (go_at_call 22; refine HMIN.out.mono ?_; rintro e w' ⟨rfl, rfl⟩) | (go_at_call 23; refine HDF.out.mono ?_))
      rintro e w1 (⟨hok, dv1, rfl, hd1, hb1⟩ | ⟨⟨i, hi, hbad⟩, rfl, hb1⟩)
      · have HOK := Lib.hid (show ∀ i, i < m → (diffAt l i).2.2 = true from fun i hi => hok i (by have := HN.out; have := HM.out; omega))
        rw [HM.out] at hd1
        obtain ⟨DA, dn, dcap, rfl⟩ := hd1.shape
        have hdn : dn = m := by have := hd1.parts.1; rw [gpairs_len] at this; omega
        subst hdn
        have HD1 := Lib.hid hd1
        have HB1 := Lib.hid hb1
        have HT1 := Lib.hid (HT.out.below hb1 HT.out.lt)
        have HWAY := Lib.hid (way_any (gpairs l dn) (.slice DA dn dcap) w1 hd1 (by rw [gpairs_len]; exact hm1) (by rw [gpairs_len]; omega))
        clear hok hd1 hb1
        cases hway : dway (gpairs l dn) with
        | false =>
          have hE := Lib.hid (gputE_none (s := false) (show gsizes l (gfalls l) (l.length - 1) = none by rw [HM.out]; exact gsizes_turn hm1 HOK.out hway))
          rw [hway] at HWAY
          clear hway
          go_wp2_with (go_at_call 24; refine HWAY.out.mono ?_; rintro e w2 ⟨rfl, hb2⟩)
          go_ret2
          rw [hE.out]
          exact RetEO.nil _ (below_then HB1.out hb2)
        | true =>
          have HSZ := Lib.hid (gsizes_way hm1 HOK.out hway)
          have HSM := Lib.hid (dsame_all hm1 HOK.out hway)
          have hst := first_step hm1 HOK.out
          have hE := gputE_some (s := false) HPL.out (by have := HN.out; omega) (by have := HN.out; omega) (show gsizes l (gfalls l) (l.length - 1) = some (sizesOf (gpairs l dn)) by rw [HM.out]; exact HSZ.out)
          have hfi := (gfirst_diff (l := l) (us := sizesOf (gpairs l dn)) (by have := HN.out; omega) (by rw [HM.out]; exact HSZ.out)).2
          have h64 := gsizes_64 HSZ.out
          have HPK := Lib.hid (fun (w : World) ht hd => tpack_any l dn (.slice DA dn dcap) w ht hd hm1 (by omega) HSM.out)
          have hgn := gnum_le h64
          have HTB := Lib.hid (gtail_short (us := sizesOf (gpairs l dn)) (by rw [show (sizesOf (gpairs l dn)).length = dn by unfold sizesOf; rw [List.length_map, gpairs_len]]; omega) h64)
          unfold glay at hE
          obtain ⟨us, hus⟩ : ∃ us, us = sizesOf (gpairs l dn) := ⟨_, rfl⟩
          rw [← hus] at hE hst hfi HPK hgn HTB
          obtain ⟨G, hG⟩ : ∃ G, G = gnum us := ⟨_, rfl⟩
          obtain ⟨tl, htl⟩ : ∃ tl, tl = gtail us := ⟨_, rfl⟩
          obtain ⟨x1, hx1⟩ : ∃ x1, x1 = gfirst l us := ⟨_, rfl⟩
          obtain ⟨x0, hx0⟩ : ∃ x0, x0 = l.headD 0 := ⟨_, rfl⟩
          rw [← hG, ← htl, ← hx1, ← hx0, ← HN.out] at hE
          rw [← hG, ← htl] at HPK
          rw [← hG] at hgn
          rw [← htl] at HTB
          rw [← hx1] at hst hfi
          obtain ⟨u0, f0, ok0, hd0⟩ : ∃ u0 f0 ok0, diffAt l 0 = (u0, f0, ok0) := ⟨_, _, _, rfl⟩
          have hu0 : (u0 : Int) < 18446744073709551616 := by have h := gdiff_lt (l.getD 0 0) (l.getD (0 + 1) 0); unfold diffAt at hd0; rw [hd0] at h; dsimp only at h; omega
          rw [hd0] at hst
          have HSP := Lib.hid (fun (w : World) => step_any 0 u0 f0 w (by unfold inInt; omega) hu0)
          rw [hst] at HSP
          unfold RetG at HSP
          have HE2 := Lib.hid hE
          have HX1 := Lib.hid hfi
          have HG31 := Lib.hid hgn
          have HX0 := Lib.hid (show inInt x0 by rw [hx0]; exact HL0.out)
          have HC0 := Lib.hid (show ∀ W, Below w.heap.size w W → ∃ ad, A = some ad ∧ ad.block < W.heap.size ∧ W.cell? (ad.add 0) = some (.int .i64 x0) from fun W hW => by
            obtain ⟨ad, e1, e2, e3⟩ := (HV.out.below hW).at (k := 0) (by have := HN.out; omega)
            refine ⟨ad, e1, e2, ?_⟩
            rw [e3, hx0]
            cases l with
            | nil => have := HN.out; simp at this; omega
            | cons a t => rfl)
          have HDC := Lib.hid (show ∀ W, IsR dc (gpairs l dn) (.slice DA dn dcap) W → ∃ ad, DA = some ad ∧ ad.block < W.heap.size ∧ W.cell? ad = some (.int .u64 (u0 : Int)) ∧ W.cell? ⟨ad.block, ad.off + 1, none⟩ = some (.bool f0) from fun W hW => by
            obtain ⟨ad, e1, e2, e3⟩ := hW.at (m := 2) dc_len (by omega) (k := 0) (by rw [gpairs_len]; exact hm1)
            have e4 : (gpairs l dn)[0]? = some (u0, f0) := by rw [gpairs_get 0 hm1, hd0]; rfl
            rw [List.getElem?_eq_getElem (by rw [gpairs_len]; exact hm1)] at e4
            injection e4 with e4
            rw [e4] at e3
            have k0 := cells2 e3
            rw [Nat.zero_mul] at k0
            have ha0 : ad.add 0 = ad := by simp [Addr.add]
            rw [ha0] at k0
            exact ⟨ad, e1, e2, k0.1, k0.2⟩)
          rw [hway] at HWAY
          clear hway hE hst hfi h64 hgn hus hG htl hx1 hx0 hd0 hu0
          go_wp2_with fail
          refine HWAY.out.mono ?_
          rintro e w2 ⟨rfl, hb2⟩
          have HB2 := Lib.hid (below_then HB1.out hb2)
          have HT2 := Lib.hid (HT1.out.below hb2 HT1.out.lt)
          have HD2 := Lib.hid (HD1.out.below hb2)
          clear hb2
          go_wp2_with fail
          refine (HPK.out w2 HT2.out HD2.out).mono ?_
          rintro e w3 ⟨pv, rfl, hp3, hb3⟩
          have HB3 := Lib.hid (below_then HB2.out hb3)
          have HT3 := Lib.hid (HT2.out.below hb3 HT2.out.lt)
          have HP3 := Lib.hid hp3
          obtain ⟨da, rfl, hda, hdc1, hdc2⟩ := HDC.out w3 (HD2.out.below hb3)
          clear hb3 hp3
          have ha0 : da.add 0 = da := by simp [Addr.add]
          go_wp2_with fail
          refine (HSP.out w3).mono ?_
          rintro e w4 ⟨rfl, hb4⟩
          have HB4 := Lib.hid (below_then HB3.out hb4)
          have HT4 := Lib.hid (HT3.out.below hb4 HT3.out.lt)
          have HP4 := Lib.hid (IsB.below HP3.out hb4)
          clear hb4 hdc1 hdc2 hda ha0
          go_wp2
          obtain ⟨ad, rfl, had, _⟩ := HC0.out w4 HB4.out
          refine wp_region_list [.is (.int .i64 (G : Int)), .is (.slice (some ad) n c), .is (.int .i64 (n : Int)), .bytes (dheadN 3 G n), .is (.slice (some ad) n c), .is (.pointer (some (ad.add 0))), .is (.int .i64 x0), .is (.bool false), .bytes (dheadN 3 G n ++ vput (vint x0 false)), .bytes (dheadN 3 G n ++ vput (vint x0 false))] [some 55, some 56, some 57, some 58, some 59, some 60, some 61, some 62, some 63, some 13] (by kernel_rfl) (by kernel_rfl) (by kernel_rfl) rfl ⟨?_, ?_, ?_, ?_, ?_, ?_, ?_, ?_, ?_, ?_, trivial⟩ ?_
          · intro ρ W1 hb1 H
            exact gives_move rfl (H.old 8 _ (by kernel_rfl) rfl) ⟨rfl, Below.refl _ _⟩
          · intro ρ W1 hb1 H
            exact gives_move rfl (H.old 0 _ (by kernel_rfl) rfl) ⟨rfl, Below.refl _ _⟩
          · intro ρ W1 hb1 H
            exact gives_len Tryd.underlying30 rfl (H.new 56 1 (by kernel_rfl)) ⟨rfl, Below.refl _ _⟩
          · intro ρ W1 hb1 H
            have e0 : ρ (.tmp 55) = .int .i64 (G : Int) := H.new 55 0 (by kernel_rfl)
            have e1 : ρ (.tmp 57) = .int .i64 (n : Int) := H.new 57 2 (by kernel_rfl)
            refine gives_call rfl (fun _ _ => by kernel_rfl) (H.func _) (args := #[.int .i64 3, .int .i64 (G : Int), .int .i64 (n : Int)]) (by simp [e0, e1, H.const]) ?_
            have hG := HG31.out
            refine (dhead_any 3 (G : Int) (n : Int) W1 (HT4.out.below hb1 HT4.out.lt) (by unfold inInt; omega) (by unfold inInt; omega) (by unfold inInt; omega)).mono ?_
            rintro e w' ⟨u, h1, h2, h3⟩
            rw [show ((3 : Int)) = ((3 : Nat) : Int) from rfl, dhead_in (by omega) hG (by omega) (by omega)] at h2
            exact ⟨_, h1, h2, h3⟩
          · intro ρ W1 hb1 H
            exact gives_move rfl (H.old 0 _ (by kernel_rfl) rfl) ⟨rfl, Below.refl _ _⟩
          · intro ρ W1 hb1 H
            exact gives_index (k := 0) elemI rfl (H.new 59 4 (by kernel_rfl)) (H.const _) (by omega) ⟨rfl, Below.refl _ _⟩
          · intro ρ W1 hb1 H
            obtain ⟨ad', e1, _, e2⟩ := HC0.out W1 (below_then HB4.out hb1)
            injection e1 with e1
            subst e1
            exact gives_load rfl (H.new 60 5 (by kernel_rfl)) Tryd.underlying3 rfl e2 ⟨rfl, Below.refl _ _⟩
          · intro ρ W1 hb1 H
            exact gives_move rfl (H.old 1 _ (by kernel_rfl) rfl) ⟨rfl, Below.refl _ _⟩
          · intro ρ W1 hb1 H
            have e0 : IsB (dheadN 3 G n) (ρ (.tmp 58)) W1 := H.new 58 3 (by kernel_rfl)
            have e1 : ρ (.tmp 61) = .int .i64 x0 := H.new 61 6 (by kernel_rfl)
            have e2 : ρ (.tmp 62) = .bool false := H.new 62 7 (by kernel_rfl)
            obtain ⟨hv, hhv⟩ : ∃ hv, hv = ρ (.tmp 58) := ⟨_, rfl⟩
            rw [← hhv] at e0
            refine gives_call rfl (fun _ _ => by kernel_rfl) (H.func _) (args := #[hv, .int .i64 x0, .bool false]) (by simp [hhv, e1, e2]) ?_
            exact (putInt_isB x0 false e0 (by rw [dheadN_len]; omega) HX0.out.1 HX0.out.2).mono fun e w' ⟨u, h1, h2, h3⟩ => ⟨_, h1, h2, h3⟩
          · intro ρ W1 hb1 H
            exact gives_assign rfl rfl ⟨H.new 63 8 (by kernel_rfl), Below.refl _ _⟩
          · intro vs W1 hb1 hfs
            have f9 : IsB (dheadN 3 G n ++ vput (vint x0 false)) (vs 9) W1 := hfs 9 (by decide)
            clear hfs
            simp only [putAll, Nat.zero_add, Nat.reduceAdd]
            generalize vs 0 = z0
            generalize vs 1 = z1
            generalize vs 2 = z2
            generalize vs 3 = z3
            generalize vs 4 = z4
            generalize vs 5 = z5
            generalize vs 6 = z6
            generalize vs 7 = z7
            generalize vs 8 = z8
            generalize vs 9 = z9 at f9 ⊢
            simp only [Act.put, List.setIfInBounds_toArray, List.set_cons_succ, List.set_cons_zero]
            have HO := Lib.hid f9
            have HBa := Lib.hid (below_then HB4.out hb1)
            have HP5 := Lib.hid (IsB.below HP4.out hb1)
            have HLN := Lib.hid (show (dheadN 3 G n ++ vput (vint x0 false)).length ≤ 1000 by rw [List.length_append, dheadN_len]; have := vput_len_10 (x := vint x0 false) (vint_64 HX0.out); omega)
            clear f9 hb1
            go_wp2_with fail
            refine (putInt_isO x1 true HO.out (by have := HLN.out; omega) HX1.out.1 HX1.out.2).mono ?_
            rintro e w6 ⟨v6, rfl, hown6, hb6⟩
            have hp6 := IsB.below HP5.out hb6
            obtain ⟨A7, n7, c7, rfl⟩ := IsV.shape (f := bv) hp6
            obtain ⟨hn7, hA7, -, -, hl7⟩ := IsV.parts (f := bv) (show IsV bv _ _ _ from hp6)
            have hM7 : (tl.map bv).length = n7 := by rw [List.length_map]; exact hn7
            have hn7b : n7 ≤ 5000 := by rw [← hn7]; exact HTB.out
            have HM7 := Lib.hid hM7
            have hzz6 := hb6.size
            obtain ⟨K6, hK6⟩ : ∃ K, K = (dheadN 3 G n ++ vput (vint x0 false) ++ vput (vint x1 true)).length := ⟨_, rfl⟩
            have hK6b : K6 ≤ 2000 := by rw [hK6, List.length_append]; have := vput_len_10 (x := vint x1 true) (vint_64 HX1.out); have := HLN.out; omega
            rw [← hK6] at hown6
            have HK6 := Lib.hid hK6
            obtain ⟨xs6, hx6⟩ : ∃ xs, xs = (dheadN 3 G n ++ vput (vint x0 false) ++ vput (vint x1 true)).map bv := ⟨_, rfl⟩
            rw [← hx6] at hown6
            have HX6 := Lib.hid hx6
            clear hp6 hM7 hn7 hK6 hx6
            go_wp2_with (at_builtin; refine wpList_join elemB rfl _ _ rfl W1.heap.size _ _ _ _ _ _ (tl.map bv) W1 rfl rfl hA7 HM7.out hl7 (bv_one _) hown6 hb6 hzz6 (by omega) (by omega) ?_)
            intro v8 w8 hown8 hb8 _ _
            have HI9 := Lib.hid (show w8.ownsRow w.heap.size 5 1 v8 (dheadN 3 G n ++ vput (vint x0 false) ++ vput (vint x1 true) ++ tl).length ((dheadN 3 G n ++ vput (vint x0 false) ++ vput (vint x1 true) ++ tl).map bv) by
              rw [List.map_append, ← HX6.out, List.length_append, ← HK6.out, show tl.length = n7 by have := HM7.out; rwa [List.length_map] at this]
              exact own_base HBa.out.size hown8)
            have HB9 := Lib.hid (below_then HBa.out hb8)
            clear hown8 hb8 hown6 hzz6
            go_wp2
            go_ret2
            rw [HE2.out]
            exact ⟨_, rfl, HI9.out, HB9.out⟩
      · have hE := Lib.hid (gputE_none (s := false) (show gsizes l (gfalls l) (l.length - 1) = none from gsizes_none (k := i) (by omega) (gat_bad hbad)))
        clear hi hbad
        go_wp2
        go_ret2
        rw [hE.out]
        exact RetEO.nil _ hb1
theorem tput_any (l : List Int) (v : Value) (s : Bool) (w : World) (ht : WTab w) (hv : IsV iv l v w) (hl : ∀ x ∈ l, inInt x) (hb : l.length ≤ 1000000) : Calls Tryd.prog 14 #[v, .bool s] w (RetE w (gputE l s)) := (tput_own l v s w ht hv hl hb).mono fun _ _ h => h.e
end Go.Proofs.YtchgpgnipmmflaaDoor

/- delta's own contracts: Take; all four together. -/



namespace Go.Proofs.YtchgpgnipmmflaaDoor

open Go.RowKit

theorem takeInt_none {l : List UInt8} {v : Value} {w : World} (s : Bool) (h : IsB l v w) (hl : l.length ≤ 1000000) (hn : vtint l s = none) : Calls Tryd.prog 36 #[v, .bool s] w fun e w' => ∃ r, e = .returned (.tuple #[.int .i64 0, r, .int .i64 2]) ∧ Below w.heap.size w w' := by
  refine (takeInt_isB s h hl).mono fun e w' h => ?_
  obtain ⟨r, h1, _, h3⟩ := h.parts
  rw [hn] at h1
  exact ⟨r, h1, h3⟩
theorem takeInt_some {l r : List UInt8} {v : Value} {w : World} {x : Int} (s : Bool) (h : IsB l v w) (hl : l.length ≤ 1000000) (hn : vtint l s = some (x, r)) : Calls Tryd.prog 36 #[v, .bool s] w fun e w' => ∃ u, e = .returned (.tuple #[.int .i64 x, u, .int .i64 0]) ∧ OwnB w r u w' ∧ Below w.heap.size w w' := by
  refine (takeInt_isB s h hl).mono fun e w' h => ?_
  obtain ⟨u, h1, h2, h3⟩ := h.owned
  rw [hn] at h1 h2
  exact ⟨u, h1, h2, h3⟩
/-- The sizes of a run, and what is behind. -/
def gup (r : List UInt8) (C M u0 : Nat) : Option (List Nat × List UInt8) :=
  if C = 0 then some (List.replicate (M - 1) u0, r)
  else if (unpacksAny r (M - 2 : Nat) (wof C)).2.2 = 0 then some (u0 :: (unpacksAny r (M - 2 : Nat) (wof C)).1, (unpacksAny r (M - 2 : Nat) (wof C)).2.1) else none
def gover (s f : Bool) (x : Int) : Option (List Nat × List UInt8) → List Int × List UInt8 × Int
  | none => ([], [], 2)
  | some p => gend s f x p.1 p.2
theorem gmore_up {s f : Bool} {x : Int} {u0 C M : Nat} {r : List UInt8} (hM : 2 ≤ M) : gmore s f x u0 (C : Int) (M : Int) r = gover s f x (gup r C M u0) := by
  unfold gup
  by_cases h0 : C = 0
  · subst h0
    rw [if_pos rfl, gmore_zero (by omega), show ((M : Int) - 1).toNat = M - 1 by omega]
    rfl
  · rw [if_neg h0]
    obtain ⟨us, q, e, hu⟩ : ∃ us q e, unpacksAny r (M - 2 : Nat) (wof C) = (us, q, e) := ⟨_, _, _, rfl⟩
    have hu2 : unpacksAny r ((M : Int) - 2) (wof C) = (us, q, e) := by rw [← hu]; congr 1; omega
    rw [hu]
    dsimp only
    by_cases he : e = 0
    · subst he
      rw [if_pos rfl, gmore_good (by omega) hu2]
      rfl
    · rw [if_neg he, gmore_bad (by omega) hu2 he]
      rfl
/-- What unpack answers, in the one way and in the other. -/
def RetUq (f : Bool) (o : Option (List Nat × List UInt8)) (w0 w : World) (e : Ending) (w' : World) : Prop :=
  match o with
  | none => e = .returned (.tuple #[.slice none 0 0, .slice none 0 0, .bool false]) ∧ Below w.heap.size w w'
  | some p => ∃ u r, e = .returned (.tuple #[u, r, .bool true]) ∧ IsR dc (toward f p.1) u w' ∧ OwnB w0 p.2 r w' ∧ Below w.heap.size w w'
theorem dunpack_is (r : List UInt8) (v : Value) (C M : Nat) (d : Int) (u0 : Nat) (f : Bool) (w0 w : World) (ht : WTab w) (hv : OwnB w0 r v w) (h00 : w0.heap.size ≤ w.heap.size) (hb : r.length ≤ 1000000) (hC : C ≤ 31) (hM2 : 2 ≤ M) (hM : M ≤ 512) (hd : inInt d) (hx : gdiff 0 d = (u0, f, true)) :
    Calls Tryd.prog 37 #[v, .int .i64 (C : Int), .int .i64 (M : Int), .int .i64 d] w (RetUq f (gup r C M u0) w0 w) := by
  unfold gup
  by_cases h0 : C = 0
  · subst h0
    rw [if_pos rfl]
    refine (unpack_zero v M d u0 f w hM2 hM hd hx).mono ?_
    rintro e w' ⟨u, h1, h2, h3⟩
    exact ⟨u, v, h1, h2, hv.below h3, h3⟩
  · rw [if_neg h0]
    refine (unpack_more r v C M d u0 f w ht hv.isB hb (by omega) hC hM2 hM hd hx).mono ?_
    intro e w' h
    split at h
    · rename_i he
      rw [if_pos he]
      obtain ⟨u, q, h1, h2, h3, h4⟩ := h
      exact ⟨u, q, h1, h2, OwnB.base h00 h3, h4⟩
    · rename_i he
      rw [if_neg he]
      exact h
theorem gup_bd {r q : List UInt8} {C M u0 : Nat} {us : List Nat} (h : gup r C M u0 = some (us, q)) (hM2 : 2 ≤ M) (hM : M ≤ 512) (hu : u0 < 2 ^ 64) : us.length ≤ 1000 ∧ ∀ u ∈ us, u < 2 ^ 64 := by
  unfold gup at h
  by_cases h0 : C = 0
  · rw [if_pos h0] at h
    injection h with h
    injection h with h1 h2
    subst h1
    refine ⟨by rw [List.length_replicate]; omega, fun u hm => ?_⟩
    rw [List.eq_of_mem_replicate hm]
    exact hu
  · rw [if_neg h0] at h
    obtain ⟨vs, q', e, hv⟩ : ∃ us q e, unpacksAny r (M - 2 : Nat) (wof C) = (us, q, e) := ⟨_, _, _, rfl⟩
    rw [hv] at h
    dsimp only at h
    split at h
    · rename_i he
      subst he
      injection h with h
      injection h with h1 h2
      subst h1
      have h3 := unpacksAny_len hv
      have h4 : ∀ u ∈ vs, u < 2 ^ 64 := by have h := (unpacksAny_lt (l := r) (M := (M - 2 : Nat)) (W := wof C)).1; rw [hv] at h; exact h
      refine ⟨by rw [List.length_cons]; omega, fun u hm => ?_⟩
      rcases List.mem_cons.1 hm with rfl | hm
      · exact hu
      · exact h4 u hm
    · cases h
set_option maxHeartbeats 8000000 in
set_option maxRecDepth 100000 in
theorem ttake_own (l : List UInt8) (v : Value) (s : Bool) (w : World) (ht : WTab w) (hv : IsB l v w) (hb : l.length ≤ 1000000) : Calls Tryd.prog 17 #[v, .bool s] w (RetIO w (gtakeE l s)) := by
  have HLK := Lib.hid (dlook_any l v w hv hb)
  unfold RetK at HLK
  have HT := Lib.hid ht
  rcases dlook_or l with ⟨_, hd⟩ | ⟨_, K, C, M, hK, hC, hM1, hM, hd⟩
  · have hE := Lib.hid (gtakeE_head (l := l) (s := s) (.inl (by rw [hd]; decide)))
    rw [hd] at HLK
    dsimp only at HLK
    clear hd ht hv hb
    go_enter Tryd.func17, Tryd.ntmps17
    go_wp2_with fail
    refine HLK.out.mono ?_
    rintro e w1 ⟨v1, rfl, _, hb1⟩
    go_wp2
    go_ret3
    rw [hE.out]
    exact RetIO.nil _ hb1
  · by_cases hk : K = 3 ∧ 2 ≤ M
    · obtain ⟨hk3, hM2⟩ := hk
      subst hk3
      have hE0 := Lib.hid (gtakeE_in (s := s) hd (by omega))
      rw [hd] at HLK
      dsimp only at HLK
      have HRL := Lib.hid (show (l.drop 2).length ≤ 1000000 by rw [List.length_drop]; omega)
      clear hd ht hv hb hK hM1
      generalize l.drop 2 = r0 at HLK HRL hE0
      go_enter Tryd.func17, Tryd.ntmps17
      go_wp2_with fail
      refine HLK.out.mono ?_
      rintro e w1 ⟨v1, rfl, hi1, hb1⟩
      have HI1 := Lib.hid hi1
      have HB1 := Lib.hid hb1
      clear hi1 hb1 HLK
      have hMi : ¬ (M : Int) < 2 := by omega
      go_wp2_with fail
      cases h1 : vtint r0 s with
      | none =>
        have hE := Lib.hid (hE0.out.trans (gbody_none h1))
        refine (takeInt_none s HI1.out HRL.out h1).mono ?_
        rintro e w2 ⟨v2, rfl, hb2⟩
        clear h1
        go_wp2
        go_ret3
        rw [hE.out]
        exact RetIO.nil _ (below_then HB1.out hb2)
      | some p =>
      obtain ⟨x, r1⟩ := p
      have HX := Lib.hid (vtint_bd h1)
      have H1 := Lib.hid h1
      refine (takeInt_some s HI1.out HRL.out h1).mono ?_
      rintro e w2 ⟨v2, rfl, ho2, hb2⟩
      have HO2 := Lib.hid ho2
      have HB2 := Lib.hid (below_then HB1.out hb2)
      have HRL1 := Lib.hid (show r1.length ≤ 1000000 from Nat.le_trans HX.out.2 HRL.out)
      clear h1 ho2 hb2
      go_wp2_with fail
      cases h2 : vtint r1 true with
      | none =>
        have hE := Lib.hid (hE0.out.trans (gbody_none2 H1.out h2))
        refine (takeInt_none true HO2.out.isB HRL1.out h2).mono ?_
        rintro e w3 ⟨v3, rfl, hb3⟩
        clear h2
        go_wp2
        go_ret3
        rw [hE.out]
        exact RetIO.nil _ (below_then HB2.out hb3)
      | some p =>
      obtain ⟨d, r2⟩ := p
      have HD := Lib.hid (vtint_bd h2)
      have H2 := Lib.hid h2
      refine (takeInt_some true HO2.out.isB HRL1.out h2).mono ?_
      rintro e w3 ⟨v3, rfl, ho3, hb3⟩
      have HO3 := Lib.hid (OwnB.base HB2.out.size ho3)
      have HB3 := Lib.hid (below_then HB2.out hb3)
      have HT3 := Lib.hid (HT.out.below HB3.out HT.out.lt)
      have HRL2 := Lib.hid (show r2.length ≤ 1000000 from Nat.le_trans HD.out.2 HRL1.out)
      clear h2 ho3 hb3
      go_wp2_with fail
      obtain ⟨u0, f, ok, hg⟩ : ∃ u0 f ok, gdiff 0 d = (u0, f, ok) := ⟨_, _, _, rfl⟩
      cases ok with
      | false =>
        have hE := Lib.hid (hE0.out.trans ((gbody_some H1.out H2.out hg).trans (if_neg (by decide))))
        refine (unpack_bad v3 (C : Int) (M : Int) d w3 HD.out.1 (by rw [hg])).mono ?_
        rintro e w4 ⟨rfl, hb4⟩
        clear hg
        go_wp2
        go_ret3
        rw [hE.out]
        exact RetIO.nil _ (below_then HB3.out hb4)
      | true =>
      have hE1 := Lib.hid (hE0.out.trans ((gbody_some H1.out H2.out hg).trans ((if_pos rfl).trans (gmore_up hM2))))
      have hu0 : u0 < 2 ^ 64 := by have h := gdiff_lt64 0 d; rw [hg] at h; exact h
      have HUP := Lib.hid (dunpack_is r2 v3 C M d u0 f w w3 HT3.out HO3.out HB3.out.size HRL2.out hC hM2 hM HD.out.1 hg)
      refine HUP.out.mono ?_
      cases hup : gup r2 C M u0 with
      | none =>
        rintro e w4 ⟨rfl, hb4⟩
        have hE := Lib.hid (show gtakeE l s = ([], [], 2) by rw [hE1.out, hup]; rfl)
        clear hg hup hu0
        go_wp2
        go_ret3
        rw [hE.out]
        exact RetIO.nil _ (below_then HB3.out hb4)
      | some p =>
      obtain ⟨us, q⟩ := p
      rintro e w4 ⟨v4, v5, rfl, hd4, ho4, hb4⟩
      have hbd := gup_bd hup hM2 hM hu0
      have HE2 := Lib.hid (show gtakeE l s = gend s f x us q by rw [hE1.out, hup]; rfl)
      have HNM := Lib.hid (numbers_any s f x us v4 w4 hd4 HX.out.1 hbd.2 hbd.1)
      have HO4 := Lib.hid ho4
      have HB4 := Lib.hid (below_then HB3.out hb4)
      clear hg hup hu0 hbd hd4 ho4 hb4
      go_wp2_with fail
      refine HNM.out.mono ?_
      unfold gend at HE2
      cases hw : gwalk s f x us with
      | none =>
        rintro e w5 ⟨rfl, hb5⟩
        have hE := HE2
        rw [hw] at hE
        clear hw
        go_wp2
        go_ret3
        rw [hE.out]
        exact RetIO.nil _ (below_then HB4.out hb5)
      | some ys =>
        rintro e w5 ⟨v6, rfl, hi5, hb5⟩
        have hE := HE2
        rw [hw] at hE
        have HI5 := Lib.hid hi5
        have HO5 := Lib.hid (HO4.out.below hb5)
        have HB5 := Lib.hid (below_then HB4.out hb5)
        clear hw hi5 hb5
        go_wp2
        go_ret3
        rw [hE.out]
        exact ⟨_, _, rfl, HI5.out, HO5.out, HB5.out⟩
    · have hE := Lib.hid (gtakeE_head (l := l) (s := s) (.inr (by rw [hd]; dsimp only; omega)))
      rw [hd] at HLK
      dsimp only at HLK
      clear hd ht hv hb
      by_cases hk3 : K = 3
      · subst hk3
        have hMi : (M : Int) < 2 := by omega
        clear hk
        go_enter Tryd.func17, Tryd.ntmps17
        go_wp2_with fail
        refine HLK.out.mono ?_
        rintro e w1 ⟨v1, rfl, _, hb1⟩
        go_wp2
        go_ret3
        rw [hE.out]
        exact RetIO.nil _ hb1
      · have d1 : ((K : Int) != 3) = true := by simp; omega
        clear hk
        go_enter Tryd.func17, Tryd.ntmps17
        go_wp2_with fail
        refine HLK.out.mono ?_
        rintro e w1 ⟨v1, rfl, _, hb1⟩
        go_wp2
        go_ret3
        rw [hE.out]
        exact RetIO.nil _ hb1
theorem ttake_any (l : List UInt8) (v : Value) (s : Bool) (w : World) (ht : WTab w) (hv : IsB l v w) (hb : l.length ≤ 1000000) : Calls Tryd.prog 17 #[v, .bool s] w (RetIB w (gtakeE l s)) := (ttake_own l v s w ht hv hb).mono fun _ _ h => h.ib
end Go.Proofs.YtchgpgnipmmflaaDoor

/- The contract of what stands at the head of the statements of layer 9. -/



namespace Go.Proofs.YtchgpgnipmmflaaDoor

open Go.RowKit

theorem ts_one : gputE [2, 3, 5, 7, 11, 13, 17, 19, 23, 29] false = ([196, 9, 2, 2, 74, 40, 166], 0) := by decide +kernel
theorem put_one (w : World) (ht : WTab w) : Calls Tryd.prog 14 #[.slice (some ⟨w.heap.size, 0, none⟩) 10 10, .bool false] (w.alloc (.cells #[.int .i64 2, .int .i64 3, .int .i64 5, .int .i64 7, .int .i64 11, .int .i64 13, .int .i64 17, .int .i64 19, .int .i64 23, .int .i64 29] 3)) fun e w' => ∃ v, e = .returned (.tuple #[v, .int .i64 0]) ∧ IsB [196, 9, 2, 2, 74, 40, 166] v w' ∧ Below w.heap.size w w' := by
  have hb0 : Below w.heap.size w (w.alloc (.cells #[.int .i64 2, .int .i64 3, .int .i64 5, .int .i64 7, .int .i64 11, .int .i64 13, .int .i64 17, .int .i64 19, .int .i64 23, .int .i64 29] 3)) := (Below.refl _ _).alloc (Nat.le_refl _) _
  have h := tput_any [2, 3, 5, 7, 11, 13, 17, 19, 23, 29] _ false _ (ht.below hb0 ht.lt) (isV_new iv w 3 [2, 3, 5, 7, 11, 13, 17, 19, 23, 29] 10 rfl (by omega)) (by intro x hx; simp at hx; unfold inInt; omega) (by simp)
  rw [ts_one] at h
  exact h.mono fun e w' ⟨v, h1, h2, h3⟩ => ⟨v, h1, h2, below_then hb0 h3⟩
theorem ts_two : gputE [5, 5, 5] true = ([192, 2, 10, 0], 0) := by decide +kernel
theorem put_two (w : World) (ht : WTab w) : Calls Tryd.prog 14 #[.slice (some ⟨w.heap.size, 0, none⟩) 3 3, .bool true] (w.alloc (.cells #[.int .i64 5, .int .i64 5, .int .i64 5] 3)) fun e w' => ∃ v, e = .returned (.tuple #[v, .int .i64 0]) ∧ IsB [192, 2, 10, 0] v w' ∧ Below w.heap.size w w' := by
  have hb0 : Below w.heap.size w (w.alloc (.cells #[.int .i64 5, .int .i64 5, .int .i64 5] 3)) := (Below.refl _ _).alloc (Nat.le_refl _) _
  have h := tput_any [5, 5, 5] _ true _ (ht.below hb0 ht.lt) (isV_new iv w 3 [5, 5, 5] 3 rfl (by omega)) (by intro x hx; simp at hx; unfold inInt; omega) (by simp)
  rw [ts_two] at h
  exact h.mono fun e w' ⟨v, h1, h2, h3⟩ => ⟨v, h1, h2, below_then hb0 h3⟩
theorem ts_three : gputE [1, 3, 2] true = ([], 1) := by decide +kernel
theorem put_three (w : World) (ht : WTab w) : Calls Tryd.prog 14 #[.slice (some ⟨w.heap.size, 0, none⟩) 3 3, .bool true] (w.alloc (.cells #[.int .i64 1, .int .i64 3, .int .i64 2] 3)) fun e w' => ∃ v, e = .returned (.tuple #[v, .int .i64 1]) ∧ IsB [] v w' ∧ Below w.heap.size w w' := by
  have hb0 : Below w.heap.size w (w.alloc (.cells #[.int .i64 1, .int .i64 3, .int .i64 2] 3)) := (Below.refl _ _).alloc (Nat.le_refl _) _
  have h := tput_any [1, 3, 2] _ true _ (ht.below hb0 ht.lt) (isV_new iv w 3 [1, 3, 2] 3 rfl (by omega)) (by intro x hx; simp at hx; unfold inInt; omega) (by simp)
  rw [ts_three] at h
  exact h.mono fun e w' ⟨v, h1, h2, h3⟩ => ⟨v, h1, h2, below_then hb0 h3⟩

set_option maxHeartbeats 1000000 in
set_option maxRecDepth 100000 in
theorem shown_any (w : World) (ht : WTab w) : Calls Tryd.prog 8 #[] w fun e w' => e = .returned (.bool true) ∧ Below w.heap.size w w' := by
  have HT := Lib.hid ht
  clear ht
  go_enter Tryd.func8, Tryd.ntmps8
  go_wp2_with fail
  refine (put_one w HT.out).mono ?_
  rintro e w1 ⟨v1, rfl, hv1, hb1⟩
  have HV1 := Lib.hid hv1
  have HB1 := Lib.hid hb1
  have HT1 := Lib.hid (HT.out.below hb1 HT.out.lt)
  clear hv1 hb1
  go_wp2_with fail
  refine (put_two w1 HT1.out).mono ?_
  rintro e w2 ⟨v2, rfl, hv2, hb2⟩
  have HV2 := Lib.hid hv2
  have HV1 := Lib.hid (HV1.out.below hb2)
  have HB2 := Lib.hid (below_then HB1.out hb2)
  have HT2 := Lib.hid (HT1.out.below hb2 HT1.out.lt)
  clear hv2 hb2
  go_wp2_with fail
  refine (put_three w2 HT2.out).mono ?_
  rintro e w3 ⟨v3, rfl, _, hb3⟩
  have hc1 := textB (HV1.out.below hb3)
  have hc2 := textB (HV2.out.below hb3)
  have HB3 := Lib.hid (below_then HB2.out hb3)
  clear hb3
  go_wp2
  go_ret
  exact ⟨rfl, HB3.out⟩
theorem few_any (A : Option Addr) (n c : Nat) (w : World) (hnc : n ≤ c) (_hc : (c : Int) ≤ 9223372036854775807) :
    Calls Tryd.prog 13 #[.slice A n c] w fun e w' => e = .returned (.slice A (min n 600) c) ∧ w = w' := by
  by_cases h : n ≤ 600
  · have h1 : ¬ (600 : Int) < (n : Int) := by omega
    rw [Nat.min_eq_left h]
    go_enter Tryd.func13, Tryd.ntmps13
    go_wp2
    go_ret
    exact ⟨rfl, rfl⟩
  · have h1 : (600 : Int) < (n : Int) := by omega
    rw [Nat.min_eq_right (by omega : 600 ≤ n)]
    go_enter Tryd.func13, Tryd.ntmps13
    go_wp2
    go_ret
    exact ⟨rfl, rfl⟩
theorem few_is {l : List Int} {v : Value} {w : World} (h : IsV iv l v w) : Calls Tryd.prog 13 #[v] w fun e w' => (∃ u, e = .returned u ∧ IsV iv (l.take 600) u w') ∧ w = w' := by
  obtain ⟨A, n, c, rfl⟩ := h.shape
  obtain ⟨h1, h2, h3, h4, h5⟩ := h.parts
  refine (few_any A n c w h3 (by unfold maxLen at h4; omega)).mono ?_
  rintro e w' ⟨rfl, rfl⟩
  refine ⟨⟨_, rfl, ?_⟩, rfl⟩
  have h6 := h.take (k := min n 600) (by omega)
  rwa [show l.take (min n 600) = l.take 600 by
    by_cases h7 : n ≤ 600
    · rw [Nat.min_eq_left h7, List.take_of_length_le (by omega), List.take_of_length_le (by omega)]
    · rw [Nat.min_eq_right (by omega)]] at h6
theorem mem_take {α : Type} {p : α → Prop} {l : List α} (h : ∀ x ∈ l, p x) (n : Nat) : ∀ x ∈ l.take n, p x := fun x hx => h x (List.mem_of_mem_take hx)
theorem iv_one (l : List Int) : ∀ u ∈ l.map iv, u.oneCell' = true := vs_one (fun _ => rfl) l
end Go.Proofs.YtchgpgnipmmflaaDoor

/- What every law's text of this program uses on its way to the row. -/





namespace Go.Proofs.YtchgpgnipmmflaaDoor

open Go.RowKit

theorem wf_i64 {x : Int} (h : (Lit.int .i64 x).wf = true) : -9223372036854775808 ≤ x ∧ x ≤ 9223372036854775807 := by
  simpa [Lit.wf, IntKind.min, IntKind.max, IntKind.signed, IntKind.bits] using h
theorem wf_u64 {x : Int} (h : (Lit.int .u64 x).wf = true) : 0 ≤ x ∧ x < 18446744073709551616 := by
  have : 0 ≤ x ∧ x ≤ 18446744073709551615 := by simpa [Lit.wf, IntKind.min, IntKind.max, IntKind.signed, IntKind.bits] using h
  omega
theorem wf_u8 {x : Int} (h : (Lit.int .u8 x).wf = true) : 0 ≤ x ∧ x < 256 := by
  have : 0 ≤ x ∧ x ≤ 255 := by simpa [Lit.wf, IntKind.min, IntKind.max, IntKind.signed, IntKind.bits] using h
  omega
theorem own : ownKnob Tryd.prog.godebug = none := by kernel_rfl
theorem laidOut : laidOutB Tryd.prog = true := by kernel_rfl
end Go.Proofs.YtchgpgnipmmflaaDoor

/- The table of widths out of what a seat's rows list. (For seats whose rows list widths.table alone.) -/













namespace Go.Proofs.YtchgpgnipmmflaaDoor

open Go.RowKit Go.ChangeShapes Go.WideShapes Go.ChangeAt

theorem gTab : Tryd.prog.globalNamed "pilaster/widths.table" = some 0 := by kernel_rfl
theorem tTab : (Tryd.prog.globals[0]?).map (·.type) = some 88 := by kernel_rfl
theorem door_met (os : Os) (args : Array Value) : laidMetH Tryd.prog [("pilaster/widths.table", Rows.laid_pilaster_widths_table)] ((World.doorLaid Tryd.prog 400 os).forCall (fun _ _ => 0) ⟨#[], args, []⟩).memory :=
  laidMetH_of_parts3 (fuel := 8) (laidMet_of_run' 8 (by kernel_rfl) (by kernel_rfl)) (by kernel_rfl) (by kernel_rfl)
theorem tab_of {W : World} (h : laidMetH Tryd.prog [("pilaster/widths.table", Rows.laid_pilaster_widths_table)] W) : WTab W := by
  rw [MakeChecks.laidMetH_plain _ _ _ (by kernel_rfl)] at h
  exact row_of_laid (zs := wtab) gTab tTab Tryd.underlying88 Tryd.underlying3 (by kernel_rfl) (by kernel_rfl) (by omega) h
end Go.Proofs.YtchgpgnipmmflaaDoor
