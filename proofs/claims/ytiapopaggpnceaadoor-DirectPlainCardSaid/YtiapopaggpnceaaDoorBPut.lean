
/- The contract of what putter hands out, of putter itself, and of Pack. -/

import Derived.Test.YtiapopaggpnceaaDoorBLeaf

import Derived.StillTailTactics

import Derived.Deep.DeepMust

namespace Go.Proofs.YtiapopaggpnceaaDoor

open Go.RowKit

/-- What a putter holds: the bytes lie in block g, their slice in block b, the bit that comes next in block a. -/
structure Putter (g b a m t : Nat) (out : List UInt8) (w : World) : Prop where
  gb : g < b
  ba : b < a
  len : out.length = m
  row : Row w g 5 (out.map bv)
  box : Row w b 23 [.slice (some ⟨g, 0, none⟩) m m]
  pos : Row w a 3 [.int .i64 (t : Int)]
theorem Putter.drewN {g b a m t : Nat} {out : List UInt8} {w : World} (h : Putter g b a m t out w) (n : Nat) : Putter g b a m t out (w.drewN n) := ⟨h.gb, h.ba, h.len, h.row, h.box, h.pos⟩
def PutRel1 (g b a m t W V x : Nat) (w : World) (v : Value) (wr : World) : Prop :=
  ∃ (k : Nat) (out : List UInt8), v = .int .i64 (k : Int) ∧ k ≤ W ∧ Putter g b a m (t + W - k) out wr ∧ bval out = (V * 2 ^ (W - k) + x / 2 ^ k) * 2 ^ (8 * m - (t + W - k)) ∧ Below g w wr
def PutPost (g b a m t V : Nat) (w : World) (e : Ending) (w' : World) : Prop :=
  ∃ out, e = .returned (.tuple #[]) ∧ Putter g b a m t out w' ∧ bval out = V * 2 ^ (8 * m - t) ∧ Below g w w'

theorem Putter.step {g b a m t : Nat} {out : List UInt8} {w : World} (h : Putter g b a m t out w) (q t' C : Nat) (hC : C < 256) :
    Putter g b a m t' (out.set q (UInt8.ofNat C)) ((w.setCell ⟨g, q, none⟩ (.int .u8 (C : Int))).setCell ⟨a, 0, none⟩ (.int .i64 (t' : Int))) := by
  have hga : g ≠ a := by have := h.gb; have := h.ba; omega
  have hba : b ≠ a := by have := h.ba; omega
  have hbg : b ≠ g := by have := h.gb; omega
  refine ⟨h.gb, h.ba, by rw [List.length_set]; exact h.len, ?_, ?_, ?_⟩
  · refine Row.far ?_ hga _
    have h1 := h.row.set_ q (.int .u8 (C : Int))
    have h2 : Value.int .u8 (C : Int) = bv (UInt8.ofNat C) := by
      unfold bv
      congr 1
      simp only [UInt8.toNat_ofNat', Nat.reducePow]
      omega
    rw [List.map_set, ← h2]
    exact h1
  · exact Row.far (Row.far h.box hbg _) hba _
  · exact (Row.far h.pos (Ne.symm hga) _).set_ 0 (.int .i64 (t' : Int))
theorem lowest_q (n L : Nat) (w : World) (h : n ≤ 8) (hL : L = 2 ^ n - 1) : Calls Tryd.prog 54 #[.int .i64 (n : Int)] w fun e w' => e = .returned (.int .u64 (L : Int)) ∧ w' = w := by
  subst hL
  exact (lowest_any n w h).mono fun _ _ ⟨h1, h2⟩ => ⟨h1, h2.symm⟩
set_option maxHeartbeats 1000000 in
set_option maxRecDepth 100000 in
theorem put1_any (g b a m t W V x : Nat) (out : List UInt8) (w : World) (hp : Putter g b a m t out w) (hv : bval out = V * 2 ^ (8 * m - t)) (hW : W ≤ 64) (ht : t + W ≤ 8 * m) (hm : m ≤ 100000) (hx : x < 2 ^ W) :
    Calls Tryd.prog 53 #[.int .u64 (x : Int), .int .i64 (W : Int), .pointer (some ⟨a, 0, none⟩), .pointer (some ⟨b, 0, none⟩)] w (PutPost g b a m (t + W) (V * 2 ^ W + x) w) := by
  have HX := Lib.hid hx
  have HV := Lib.hid hv
  clear hx hv
  go_enter Tryd.func53, Tryd.ntmps53
  go_wp2
  go_loopw [1] (PutRel1 g b a m t W V x w) (fun v _ => (intOf v).toNat)
  case atStart =>
    refine ⟨W, out, rfl, Nat.le_refl _, by rw [Nat.add_sub_cancel]; exact hp, ?_, Below.refl _ _⟩
    rw [Nat.add_sub_cancel, Nat.sub_self, Nat.pow_zero, Nat.mul_one, Nat.div_eq_of_lt HX.out, Nat.add_zero]
    exact HV.out
  case round =>
    obtain ⟨k, o, rfl, hk, hP, hval, hb⟩ := hrel
    have HVal := Lib.hid hval
    clear hval
    obtain ⟨T, hT⟩ : ∃ T, T = t + W - k := ⟨_, rfl⟩
    rw [← hT] at hP
    have HT := Lib.hid hT
    clear hT
    have hc1 := hP.pos.cell 0
    have hc2 := hP.box.cell 0
    have hf1 := hP.pos.free 0
    by_cases hk0 : 0 < k
    · have hT8 : T + k ≤ 8 * m := by have := HT.out; omega
      obtain ⟨r, hr⟩ : ∃ r, r = 8 - T % 8 := ⟨_, rfl⟩
      obtain ⟨n, hn⟩ : ∃ n, n = min r k := ⟨_, rfl⟩
      obtain ⟨j, hj⟩ : ∃ j, j = k - n := ⟨_, rfl⟩
      obtain ⟨d, hd⟩ : ∃ d, d = r - n := ⟨_, rfl⟩
      obtain ⟨q, hq⟩ : ∃ q, q = T / 8 := ⟨_, rfl⟩
      have hri : IntKind.i64.wrap (8 - (T : Int) % 8) = (r : Int) := by rw [IntKind.wrap_i64]; omega
      have hmin : ∀ (ts : Array TypeId) (t : TypeId) (W : World), (Builtin.min_ ts t #[.int .i64 (r : Int), .int .i64 (k : Int)]).run Tryd.prog W = .ok (.int .i64 (n : Int)) W := fun ts t W => by
        rw [run_min_int2]
        congr 2
        split <;> omega
      have hki : IntKind.i64.wrap ((k : Int) - (n : Int)) = (j : Int) := by rw [IntKind.wrap_i64]; omega
      have hdi : IntKind.i64.wrap ((r : Int) - (n : Int)) = (d : Int) := by rw [IntKind.wrap_i64]; omega
      have hwq : IntKind.i64.wrap (q : Int) = (q : Int) := by rw [IntKind.wrap_i64]; omega
      have hqi : (T : Int) / 8 = (q : Int) := by omega
      have hqm : (q : Int) < (m : Int) := by omega
      have hr8 : r ≤ 8 := by omega
      have hn8 : n ≤ 8 := by omega
      have hd8 : d ≤ 8 := by omega
      have hj64 : j ≤ 64 := by omega
      have hn0 : 0 < n := by omega
      have hnk : n ≤ k := by omega
      have HR := Lib.hid hr
      have HN := Lib.hid hn
      have HJ := Lib.hid hj
      have HD := Lib.hid hd
      have HQ := Lib.hid hq
      clear hr hn hj hd hq
      obtain ⟨L, hL⟩ : ∃ L, L = 2 ^ n - 1 := ⟨_, rfl⟩
      have HL := Lib.hid hL
      obtain ⟨P, hP0⟩ : ∃ P, P = x / 2 ^ j % 2 ^ n := ⟨_, rfl⟩
      have hand := and_low x j n L (by have := HX.out; have : 2 ^ W ≤ 2 ^ 64 := Nat.pow_le_pow_right (by omega) hW; omega) hn8 hL
      rw [← hP0] at hand
      have HP0 := Lib.hid hP0
      clear hL hP0
      go_wp2
      go_quiet ((go_at_call 54; exact Calls.quiet_of_same (lowest_q _ L _ (by omega) HL.out)))
      go_wp2
      refine wp_region_tail 13 (by kernel_rfl) (by kernel_rfl) ?_
      have hP2 := hP.drewN (nq + 1)
      have hb2 := below_drewN hb (nq + 1)
      rw [World.drew_drewN]
      clear hc1 hc2 hf1 hP hb hand
      generalize wr.drewN (nq + 1) = w2 at *
      have hc1 := hP2.pos.cell 0
      have hc2 := hP2.box.cell 0
      have hf1 := hP2.pos.free 0
      have hqo : q < o.length := by have := hP2.len; omega
      obtain ⟨B, hB⟩ : ∃ B, B = o[q].toNat := ⟨_, rfl⟩
      have hcB : w2.cell? ⟨g, q, none⟩ = some (.int .u8 (B : Int)) := by
        rw [hP2.row.cell, List.getElem?_map, List.getElem?_eq_getElem hqo, hB]; rfl
      have hfB := hP2.row.free q
      obtain ⟨hk2, hl1, hl2, hl3, hl4⟩ := laid_at (piece := P) HQ.out HR.out HD.out hP2.len hn0 (by have := HN.out; omega) (by omega) (by rw [HP0.out]; exact Nat.mod_lt _ (Nat.pow_pos (by omega))) (by rw [HT.out]; exact HVal.out)
      rw [← hB] at hl1 hl2 hl4
      obtain ⟨S, hS⟩ : ∃ S, S = P * 2 ^ d := ⟨_, rfl⟩
      rw [← hS] at hl2 hl3 hl4
      have hsh : IntKind.u64.wrap ((P : Int) * 2 ^ d) = (S : Int) := by
        rw [IntKind.wrap_u64, show (P : Int) * 2 ^ d = (S : Int) by rw [hS]; simp]; omega
      have hs8 : IntKind.u8.wrap (S : Int) = (S : Int) := by rw [IntKind.wrap_u8]; omega
      have hs9 : (S : Int) % 256 = (S : Int) := by omega
      obtain ⟨C, hC⟩ : ∃ C, C = B + S := ⟨_, rfl⟩
      have hor := or_byte r B S hl1 hl3 hl2
      rw [← hC] at hor hl2 hl4
      have hga : g ≠ a := by have := hP2.gb; have := hP2.ba; omega
      have hc3 : (w2.setCell ⟨g, q, none⟩ (.int .u8 (C : Int))).cell? ⟨a, 0, none⟩ = some (.int .i64 (T : Int)) := (Row.far hP2.pos (Ne.symm hga) _).cell 0
      have hf3 : (w2.setCell ⟨g, q, none⟩ (.int .u8 (C : Int))).frozen? ⟨a, 0, none⟩ = false := (Row.far hP2.pos (Ne.symm hga) _).free 0
      have HL4 := Lib.hid hl4
      have HL2 := Lib.hid hl2
      clear hS hC hl1 hl2 hl3 hl4 hB
      simp only [List.take_succ_cons, List.take_zero, List.drop_succ_cons, List.drop_zero]
      repeat still_step
      refine wpStill_nil ?_
      go_wp2
      go_roundw
      case rel =>
        have hT2 : T + n = t + W - j := by have := HT.out; have := HJ.out; omega
        have hjk : j = k - n := HJ.out
        refine ⟨j, o.set q (UInt8.ofNat C), rfl, by omega, ?_, ?_, (hb2.setCell (Nat.le_refl _) _).setCell (by have := hP2.gb; have := hP2.ba; show g ≤ a; omega) _⟩
        · have h5 := hP2.step q (T + n) C HL2.out
          rw [Int.natCast_add] at h5
          rw [← hT2]
          exact h5
        · rw [HL4.out, ← hT2, HP0.out, hjk, piece_step V x W k n hk hnk]
      case measure => simp [intOf]; have := HJ.out; omega
    · obtain rfl : k = 0 := by omega
      go_wp2
      go_end0
      refine ⟨o, rfl, ?_, ?_, hb⟩
      · have := HT.out
        rw [show t + W = T by omega]
        exact hP
      · have := HVal.out
        rw [Nat.sub_zero, Nat.sub_zero, Nat.pow_zero, Nat.div_one] at this
        exact this
def PutterPost (g m : Nat) (out : List UInt8) (w : World) (e : Ending) (w' : World) : Prop :=
  e = .returned (.func (.func 53) #[] #[.pointer (some ⟨w.heap.size + 1, 0, none⟩), .pointer (some ⟨w.heap.size, 0, none⟩)]) ∧ Putter g w.heap.size (w.heap.size + 1) m 0 out w' ∧ Below w.heap.size w w'
theorem putter_any (g m : Nat) (out : List UInt8) (w : World) (hr : Row w g 5 (out.map bv)) (hl : out.length = m) :
    Calls Tryd.prog 48 #[.slice (some ⟨g, 0, none⟩) m m] w (PutterPost g m out w) := by
  have HL := Lib.hid hl
  clear hl
  go_enter Tryd.func48, Tryd.ntmps48
  go_wp2
  go_ret
  have hg := hr.lt
  have h1 : Row (w.alloc (.cells #[.slice (some ⟨g, 0, none⟩) m m] 23)) w.heap.size 23 [.slice (some ⟨g, 0, none⟩) m m] := heap_alloc_new w _
  refine ⟨rfl, ⟨hg, by omega, HL.out, (hr.alloc _).alloc _, h1.alloc _, ?_⟩, ((Below.refl _ _).alloc (Nat.le_refl _) _).alloc (by simp) _⟩
  have h2 := heap_alloc_new (w.alloc (.cells #[.slice (some ⟨g, 0, none⟩) m m] 23)) (.cells #[.int .i64 0] 3)
  have h3 : (w.alloc (.cells #[.slice (some ⟨g, 0, none⟩) m m] 23)).heap.size = w.heap.size + 1 := by simp
  rw [h3] at h2
  exact h2

/-- What is answered of numbers and a width that may be. -/
def packs (l : List Nat) (W : Nat) : List UInt8 × Int := if l.all (fun x => decide (x < 2 ^ W)) then (bpack l W, 0) else ([], 1)
theorem packs_ok {l : List Nat} {W : Nat} (h : ∀ x ∈ l, x < 2 ^ W) : packs l W = (bpack l W, 0) := by
  unfold packs; rw [if_pos (by simpa using h)]
theorem packs_no {l : List Nat} {W x : Nat} (hx : x ∈ l) (h : ¬ x < 2 ^ W) : packs l W = ([], 1) := by
  unfold packs; rw [if_neg (by simp; exact ⟨x, hx, by omega⟩)]
def PackRel (l : List Nat) (g b a m W : Nat) (w : World) (i : Value) (wr : World) : Prop :=
  ∃ (k : Nat) (out : List UInt8), i = .int .i64 (k : Int) ∧ k ≤ l.length ∧ Putter g b a m (W * k) out wr ∧ bval out = pval W (l.take k) * 2 ^ (8 * m - W * k) ∧ (∀ x ∈ l.take k, x < 2 ^ W) ∧ Below w.heap.size w wr
set_option maxHeartbeats 1000000 in
set_option maxRecDepth 100000 in
theorem pack_own (A : Option Addr) (n c : Nat) (l : List Nat) (W : Nat) (w : World) (hn : l.length = n) (hn4 : n ≤ 4096) (hW : W ≤ 64) (hl : Lies w A (l.map uv)) (h64 : ∀ x ∈ l, x < 2 ^ 64) :
    Calls Tryd.prog 33 #[.slice A n c, .int .i64 (W : Int)] w (RetEO w (packs l W)) := by
  have HN := Lib.hid hn
  have H64 := Lib.hid h64
  clear hn h64
  obtain ⟨m, hm⟩ : ∃ m, m = bsize n W := ⟨_, rfl⟩
  have hmW : W * n ≤ 8 * m := by rw [hm]; exact bsize_le n W
  have hm4 : m ≤ 32768 := by have := prod_le hn4 hW; unfold bsize at hm; omega
  have hsz := fun w => size_in n W w hn4 hW
  rw [← hm] at hsz
  have HS := Lib.hid hsz
  have HM := Lib.hid hm
  have HMW := Lib.hid hmW
  clear hsz hm hmW
  go_enter Tryd.func33, Tryd.ntmps33
  go_wp2_with (first | (go_at_call 46; refine (isCount_yes _ _ (by omega) (by omega)).mono ?_; rintro e w' ⟨rfl, rfl⟩) | (go_at_call 45; refine (isWidth_yes _ _ (by omega) (by omega)).mono ?_; rintro e w' ⟨rfl, rfl⟩) | (go_at_call 47; refine (HS.out _).mono ?_; rintro e w' ⟨rfl, rfl⟩) | (refine wpList_make elemB rfl _ _ rfl _ _ _ _ m w w.heap.size rfl rfl ?_ ?_ (by omega) (by omega) (Below.refl _ _) (Nat.le_refl _) ?_))
  · rfl
  · rfl
  intro w1 hr1 hb1
  have hr2 : Row w1 w.heap.size 5 ((List.replicate m (0 : UInt8)).map bv) := by simpa using hr1
  go_wp2_with fail
  refine (putter_any w.heap.size m (List.replicate m 0) w1 hr2 (by simp)).mono ?_
  rintro e w2 ⟨rfl, hP, hb2⟩
  obtain ⟨b, hbz⟩ : ∃ b, b = w1.heap.size := ⟨_, rfl⟩
  rw [← hbz] at hP ⊢
  have hbb : Below w.heap.size w w2 := hb1.trans (hb2.mono hb1.size)
  clear hr1 hr2 hb1 hb2 hbz
  go_wp2
  go_loopw [26] (PackRel l w.heap.size b (b + 1) m W w) (fun i _ => n - (intOf i).toNat)
  case atStart => exact ⟨0, List.replicate m 0, rfl, by omega, by rw [Nat.mul_zero]; exact hP, by rw [bval_zeros]; simp [pval], by simp, hbb⟩
  case round =>
    obtain ⟨k, out, rfl, hk, hP, hval, hall, hb⟩ := hrel
    have HV := Lib.hid hval
    have HA := Lib.hid hall
    clear hval hall
    have hk' : k ≤ n := by have := HN.out; omega
    by_cases hlt : k < n
    · have hkl : k < l.length := by have := HN.out; omega
      obtain ⟨ad, rfl, _, hcell⟩ := (hl.below hb).cell (k := k) (by simpa using hkl)
      obtain ⟨x, hx⟩ : ∃ x : Nat, x = l[k] := ⟨_, rfl⟩
      have hcx : wr.cell? (ad.add k) = some (.int .u64 (x : Int)) := by rw [hcell, List.getElem_map, hx]; rfl
      have hxm : x ∈ l := by rw [hx]; exact List.getElem_mem hkl
      have HX := Lib.hid hx
      clear hx hcell
      by_cases hx2 : x < 2 ^ W
      · have hz : (x : Int) / 2 ^ W = 0 := by
          have : ((x / 2 ^ W : Nat) : Int) = 0 := by rw [Nat.div_eq_of_lt hx2]; rfl
          simpa using this
        have hstep : W * k + W ≤ 8 * m := by
          have h1 : W * (k + 1) ≤ W * n := Nat.mul_le_mul_left _ hlt
          have := HMW.out
          rw [Nat.mul_add, Nat.mul_one] at h1
          omega
        have HX2 := Lib.hid hx2
        clear hx2
        go_wp2_with (go_at_call 53; refine (put1_any _ _ _ m _ W _ x out _ hP HV.out hW hstep (by omega) HX2.out).mono ?_; rintro e w3 ⟨out', rfl, hP', hv', hb'⟩)
        go_roundw
        case rel =>
          refine ⟨k + 1, out', by go_num, by omega, by rw [Nat.mul_add, Nat.mul_one]; exact hP', ?_, ?_, hb.trans hb'⟩
          · rw [hv', List.take_succ_eq_append_getElem hkl, pval_snoc, ← HX.out, Nat.mul_add, Nat.mul_one]
          · intro y hy
            rw [List.take_succ_eq_append_getElem hkl, List.mem_append] at hy
            rcases hy with hy | hy
            · exact HA.out y hy
            · rw [List.mem_singleton.1 hy, ← HX.out]; exact HX2.out
        case measure => simp [intOf]; omega
      · obtain ⟨y, hy⟩ : ∃ y, y = x / 2 ^ W := ⟨_, rfl⟩
        have hz : (x : Int) / 2 ^ W = (y : Int) := by rw [hy]; simp
        have hy0 : y ≠ 0 := by
          rw [hy]
          intro h
          rcases Nat.div_eq_zero_iff.1 h with h | h
          · have := Nat.two_pow_pos W; omega
          · exact hx2 h
        have d1 : ((y : Int) != 0) = true := by simpa using hy0
        have HNo := Lib.hid (packs_no hxm hx2)
        clear hx2 hy hy0
        go_wp2
        go_ret2
        rw [HNo.out]
        exact RetEO.nil _ hb
    · obtain rfl : k = n := by omega
      have hall : ∀ x ∈ l, x < 2 ^ W := by
        have := HA.out
        rw [List.take_of_length_le (by have := HN.out; omega)] at this
        exact this
      have HAll := Lib.hid hall
      clear hall
      go_wp2
      go_ret2
      rw [packs_ok HAll.out]
      have hv := HV.out
      rw [List.take_of_length_le (by have := HN.out; omega)] at hv
      have hob : out = bpack l W := by
        unfold bpack
        rw [HN.out, ← HM.out]
        exact eq_be hP.len hv
      exact ⟨_, rfl, by rw [← hob, hP.len]; exact own_of_row hP.row (by rw [List.length_map]; exact hP.len) (Nat.le_refl _) (by omega), hb⟩
/-- A width that is none. -/
theorem pack_out (A : Option Addr) (n c : Nat) (W : Int) (w : World) (hW : W < 0 ∨ 64 < W) :
    Calls Tryd.prog 33 #[.slice A n c, .int .i64 W] w (RetEO w ([], 1)) := by
  go_enter Tryd.func33, Tryd.ntmps33
  go_wp2_with (go_at_call 45; refine (isWidth_no _ _ (by omega)).mono ?_; rintro e w' ⟨rfl, rfl⟩)
  go_ret2
  exact RetEO.nil _ (Below.refl _ _)
/-- What Pack answers, of any width: 4096 numbers at most. -/
def packsAny (l : List Nat) (W : Int) : List UInt8 × Int := if W < 0 ∨ 64 < W then ([], 1) else packs l W.toNat
theorem packsAny_in (l : List Nat) (W : Nat) (h : W ≤ 64) : packsAny l W = packs l W := by unfold packsAny; rw [if_neg (by omega), Int.toNat_natCast]
theorem pack_isO {l : List Nat} {v : Value} {w : World} (W : Int) (hl : IsU l v w) (h4 : l.length ≤ 4096) (h64 : ∀ x ∈ l, x < 2 ^ 64) :
    Calls Tryd.prog 33 #[v, .int .i64 W] w (RetEO w (packsAny l W)) := by
  obtain ⟨A, c, rfl, _, _, _, h3⟩ := hl
  by_cases h : W < 0 ∨ 64 < W
  · unfold packsAny
    rw [if_pos h]
    exact pack_out _ _ _ _ _ h
  · obtain ⟨K, rfl⟩ := Int.eq_ofNat_of_zero_le (show 0 ≤ W by omega)
    rw [packsAny_in _ _ (by omega)]
    exact pack_own A _ c l K w rfl h4 (by omega) h3 h64
theorem pack_is {l : List Nat} {v : Value} {w : World} (W : Int) (hl : IsU l v w) (h4 : l.length ≤ 4096) (h64 : ∀ x ∈ l, x < 2 ^ 64) :
    Calls Tryd.prog 33 #[v, .int .i64 W] w (RetE w (packsAny l W)) := (pack_isO W hl h4 h64).mono fun _ _ h => h.e
end Go.Proofs.YtiapopaggpnceaaDoor
