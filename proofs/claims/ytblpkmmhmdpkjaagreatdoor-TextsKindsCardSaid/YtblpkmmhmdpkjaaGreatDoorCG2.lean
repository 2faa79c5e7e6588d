/- Texts that the claims of this seat share, part 2: BLeaf BPut BTake BUnp BRPack BRUnp Plain VZig Leaf RPut Put Take RTake Int VIs Sl EPlain ERef ERTake OwnV DPlain DRef DRPut Door Mask Num DOwn DIs Wide WRow Arr. -/
import Derived.WalkKit
import Derived.WalkLawsBesides
import Derived.Outline
import Derived.Lib.Hide
import Derived.Handy
import Derived.Deep.QuietTactic
import Derived.BigQuiet
import Derived.StillTailTactics
import Derived.Deep.DeepMust
import Derived.Lib.BitFns
import Derived.Lib.MinMax
import Derived.Deep.RegionWith
import Derived.Deep.RegionLaw
import Derived.BigGuardPart
import Derived.Deep.Grids
import Derived.Test.YtblpkmmhmdpkjaaGreatDoorTie
import Derived.Test.YtblpkmmhmdpkjaaGreatDoorCards
import Derived.SevenTiedAt
import Derived.Stop.Joined
import Derived.Deep.WholeRow
import Derived.Test.YtblpkmmhmdpkjaaGreatDoorCG1
/- Contracts of the small functions of layer 3, and of the reference's. -/



















namespace Go.Proofs.YtblpkmmhmdpkjaaGreatDoor

open Go.RowKit

theorem Tryz.infoU : (Tryz.prog.info? 101).map (fun i => (i.zero, i.size, i.bytes)) = some (some (uv 0), 1, 8) := by kernel_rfl
theorem elemU : Elem Tryz.prog 75 101 8 (uv 0) := by
  obtain ⟨i0, hi, hz0, hz1, hz2⟩ := info_parts Tryz.infoU
  exact ⟨Tryz.underlying75, rfl, i0, hi, hz0, hz1, hz2⟩

theorem isWidth_yes (n : Int) (w : World) (h0 : 0 ≤ n) (h1 : n ≤ 64) : Calls Tryz.prog 172 #[.int .i64 n] w fun e w' => e = .returned (.bool true) ∧ w = w' := by
  go_enter Tryz.func172, Tryz.ntmps172
  go_wp2
  go_ret
  exact ⟨rfl, rfl⟩
theorem isWidth_no (n : Int) (w : World) (h : n < 0 ∨ 64 < n) : Calls Tryz.prog 172 #[.int .i64 n] w fun e w' => e = .returned (.bool false) ∧ w = w' := by
  rcases h with h | h
  · have h2 : decide (0 ≤ n) = false := by simp; omega
    go_enter Tryz.func172, Tryz.ntmps172
    go_wp2
    go_ret
    exact ⟨rfl, rfl⟩
  · have h2 : decide (n ≤ 64) = false := by simp; omega
    have h3 : decide (0 ≤ n) = true := by simp; omega
    go_enter Tryz.func172, Tryz.ntmps172
    go_wp2
    go_ret
    exact ⟨rfl, rfl⟩
theorem isCount_yes (n : Int) (w : World) (h0 : 0 ≤ n) (h1 : n ≤ 4096) : Calls Tryz.prog 173 #[.int .i64 n] w fun e w' => e = .returned (.bool true) ∧ w = w' := by
  go_enter Tryz.func173, Tryz.ntmps173
  go_wp2
  go_ret
  exact ⟨rfl, rfl⟩
theorem lowest_any (n : Nat) (w : World) (h : n ≤ 8) : Calls Tryz.prog 202 #[.int .i64 (n : Int)] w fun e w' => e = .returned (.int .u64 ((2 ^ n - 1 : Nat) : Int)) ∧ w = w' := by
  have h1 : 2 ^ n ≤ 2 ^ 8 := Nat.pow_le_pow_right (by omega) h
  have h2 : 1 ≤ 2 ^ n := Nat.one_le_two_pow
  have h3 : ((2 ^ n : Nat) : Int) = 2 ^ n := by simp
  obtain ⟨p, hp⟩ : ∃ p, p = 2 ^ n := ⟨_, rfl⟩
  have HP := Lib.hid hp
  have H1 := Lib.hid h1
  have H2 := Lib.hid h2
  have H3 := Lib.hid h3
  clear hp h1 h2 h3
  go_enter Tryz.func202, Tryz.ntmps202
  go_wp2
  go_ret
  refine ⟨ret_int ?_, rfl⟩
  have h1 := H1.out
  have h2 := H2.out
  rw [← H3.out, ← HP.out, IntKind.wrap_u64, IntKind.wrap_u64]
  rw [← HP.out] at h1 h2
  omega

theorem prod_le {m w : Nat} (hm : m ≤ 4096) (hw : w ≤ 64) : m * w ≤ 262144 := Nat.mul_le_mul hm hw
theorem size_in (m w : Nat) (W : World) (hm : m ≤ 4096) (hw : w ≤ 64) : Calls Tryz.prog 174 #[.int .i64 (m : Int), .int .i64 (w : Int)] W fun e w' => e = .returned (.int .i64 (bsize m w : Int)) ∧ W = w' := by
  obtain ⟨p, hp⟩ : ∃ p : Int, p = (m : Int) * (w : Int) := ⟨_, rfl⟩
  have hp0 : 0 ≤ (m : Int) * (w : Int) := by rw [← Int.natCast_mul]; omega
  have hp1 : (m : Int) * (w : Int) ≤ 262144 := by rw [← Int.natCast_mul]; have := prod_le hm hw; omega
  have HB : Hid ((bsize m w : Int) = ((m : Int) * (w : Int) + 7) / 8) := Lib.hid (by unfold bsize; simp)
  clear hp p
  go_enter Tryz.func174, Tryz.ntmps174
  go_wp2_with (first | (go_at_call 173; refine (isCount_yes _ _ (by omega) (by omega)).mono ?_; rintro e w' ⟨rfl, rfl⟩) | (go_at_call 172; refine (isWidth_yes _ _ (by omega) (by omega)).mono ?_; rintro e w' ⟨rfl, rfl⟩))
  go_ret
  refine ⟨ret_int ?_, rfl⟩
  rw [HB.out]
  first | rfl | (congr 1; omega)
/-- A slice that holds numbers that are not below 0. -/
def IsU (l : List Nat) (v : Value) (w : World) : Prop := ∃ A c, v = .slice A l.length c ∧ (A = none → l.length = 0) ∧ l.length ≤ c ∧ c ≤ maxLen ∧ Lies w A (l.map uv)
theorem IsU.below {l : List Nat} {v : Value} {w w' : World} (h : IsU l v w) (hb : Below w.heap.size w w') : IsU l v w' := by
  obtain ⟨A, c, h1, h2, h3, h4, h5⟩ := h
  exact ⟨A, c, h1, h2, h3, h4, h5.below hb⟩
end Go.Proofs.YtblpkmmhmdpkjaaGreatDoor

/- The contract of what putter hands out, of putter itself, and of Pack. -/







namespace Go.Proofs.YtblpkmmhmdpkjaaGreatDoor

open Go.RowKit

/-- What a putter holds: the bytes lie in block g, their slice in block b, the bit that comes next in block a. -/
structure Putter (g b a m t : Nat) (out : List UInt8) (w : World) : Prop where
  gb : g < b
  ba : b < a
  len : out.length = m
  row : Row w g 5 (out.map bv)
  box : Row w b 38 [.slice (some ⟨g, 0, none⟩) m m]
  pos : Row w a 3 [.int .i64 (t : Int)]
theorem Putter.drewN {g b a m t : Nat} {out : List UInt8} {w : World} (h : Putter g b a m t out w) (n : Nat) : Putter g b a m t out (w.drewN n) := ⟨h.gb, h.ba, h.len, h.row, h.box, h.pos⟩
def PutRel1 (g b a m t W V x : Nat) (w : World) (v : Value) (wr : World) : Prop :=
  ∃ (k : Nat) (out : List UInt8), v = .int .i64 (k : Int) ∧ k ≤ W ∧ Putter g b a m (t + W - k) out wr ∧ bval out = (V * 2 ^ (W - k) + x / 2 ^ k) * 2 ^ (8 * m - (t + W - k)) ∧ Below g w wr
def PutPost (g b a m t V : Nat) (w : World) (e : Ending) (w' : World) : Prop :=
  ∃ out, e = .returned (.tuple #[]) ∧ Putter g b a m t out w' ∧ bval out = V * 2 ^ (8 * m - t) ∧ Below g w w'

theorem Putter.step {g b a m t : Nat} {out : List UInt8} {w : World} (h : Putter g b a m t out w) (q t' C : Nat) (hC : C < 256) :
    Putter g b a m t' (out.set q (UInt8.ofNat C)) ((w.setCell ⟨g, q, none⟩ (.int .u8 (C : Int))).setCell ⟨a, 0, none⟩ (.int .i64 (t' : Int))) := by
  have hga : g ≠ a := by have := h.gb; have := h.ba; omega
  have hba : b ≠ a := by have := h.ba; omega
  have hbg : b ≠ g := by have := h.gb; omega
  refine ⟨h.gb, h.ba, by rw [List.length_set]; exact h.len, ?_, ?_, ?_⟩
  · refine Row.far ?_ hga _
    have h1 := h.row.set_ q (.int .u8 (C : Int))
    have h2 : Value.int .u8 (C : Int) = bv (UInt8.ofNat C) := by
      unfold bv
      congr 1
      simp only [UInt8.toNat_ofNat', Nat.reducePow]
      omega
    rw [List.map_set, ← h2]
    exact h1
  · exact Row.far (Row.far h.box hbg _) hba _
  · exact (Row.far h.pos (Ne.symm hga) _).set_ 0 (.int .i64 (t' : Int))
theorem lowest_q (n L : Nat) (w : World) (h : n ≤ 8) (hL : L = 2 ^ n - 1) : Calls Tryz.prog 202 #[.int .i64 (n : Int)] w fun e w' => e = .returned (.int .u64 (L : Int)) ∧ w' = w := by
  subst hL
  exact (lowest_any n w h).mono fun _ _ ⟨h1, h2⟩ => ⟨h1, h2.symm⟩
set_option maxHeartbeats 1000000 in
set_option maxRecDepth 100000 in
theorem put1_any (g b a m t W V x : Nat) (out : List UInt8) (w : World) (hp : Putter g b a m t out w) (hv : bval out = V * 2 ^ (8 * m - t)) (hW : W ≤ 64) (ht : t + W ≤ 8 * m) (hm : m ≤ 100000) (hx : x < 2 ^ W) :
    Calls Tryz.prog 201 #[.int .u64 (x : Int), .int .i64 (W : Int), .pointer (some ⟨a, 0, none⟩), .pointer (some ⟨b, 0, none⟩)] w (PutPost g b a m (t + W) (V * 2 ^ W + x) w) := by
  have HX := Lib.hid hx
  have HV := Lib.hid hv
  clear hx hv
  go_enter Tryz.func201, Tryz.ntmps201
  go_wp2
  go_loopw [1] (PutRel1 g b a m t W V x w) (fun v _ => (intOf v).toNat)
  case atStart =>
    refine ⟨W, out, rfl, Nat.le_refl _, by rw [Nat.add_sub_cancel]; exact hp, ?_, Below.refl _ _⟩
    rw [Nat.add_sub_cancel, Nat.sub_self, Nat.pow_zero, Nat.mul_one, Nat.div_eq_of_lt HX.out, Nat.add_zero]
    exact HV.out
  case round =>
    obtain ⟨k, o, rfl, hk, hP, hval, hb⟩ := hrel
    have HVal := Lib.hid hval
    clear hval
    obtain ⟨T, hT⟩ : ∃ T, T = t + W - k := ⟨_, rfl⟩
    rw [← hT] at hP
    have HT := Lib.hid hT
    clear hT
    have hc1 := hP.pos.cell 0
    have hc2 := hP.box.cell 0
    have hf1 := hP.pos.free 0
    by_cases hk0 : 0 < k
    · have hT8 : T + k ≤ 8 * m := by have := HT.out; omega
      obtain ⟨r, hr⟩ : ∃ r, r = 8 - T % 8 := ⟨_, rfl⟩
      obtain ⟨n, hn⟩ : ∃ n, n = min r k := ⟨_, rfl⟩
      obtain ⟨j, hj⟩ : ∃ j, j = k - n := ⟨_, rfl⟩
      obtain ⟨d, hd⟩ : ∃ d, d = r - n := ⟨_, rfl⟩
      obtain ⟨q, hq⟩ : ∃ q, q = T / 8 := ⟨_, rfl⟩
      have hri : IntKind.i64.wrap (8 - (T : Int) % 8) = (r : Int) := by rw [IntKind.wrap_i64]; omega
      have hmin : ∀ (ts : Array TypeId) (t : TypeId) (W : World), (Builtin.min_ ts t #[.int .i64 (r : Int), .int .i64 (k : Int)]).run Tryz.prog W = .ok (.int .i64 (n : Int)) W := fun ts t W => by
        rw [run_min_int2]
        congr 2
        split <;> omega
      have hki : IntKind.i64.wrap ((k : Int) - (n : Int)) = (j : Int) := by rw [IntKind.wrap_i64]; omega
      have hdi : IntKind.i64.wrap ((r : Int) - (n : Int)) = (d : Int) := by rw [IntKind.wrap_i64]; omega
      have hwq : IntKind.i64.wrap (q : Int) = (q : Int) := by rw [IntKind.wrap_i64]; omega
      have hqi : (T : Int) / 8 = (q : Int) := by omega
      have hqm : (q : Int) < (m : Int) := by omega
      have hr8 : r ≤ 8 := by omega
      have hn8 : n ≤ 8 := by omega
      have hd8 : d ≤ 8 := by omega
      have hj64 : j ≤ 64 := by omega
      have hn0 : 0 < n := by omega
      have hnk : n ≤ k := by omega
      have HR := Lib.hid hr
      have HN := Lib.hid hn
      have HJ := Lib.hid hj
      have HD := Lib.hid hd
      have HQ := Lib.hid hq
      clear hr hn hj hd hq
      obtain ⟨L, hL⟩ : ∃ L, L = 2 ^ n - 1 := ⟨_, rfl⟩
      have HL := Lib.hid hL
      obtain ⟨P, hP0⟩ : ∃ P, P = x / 2 ^ j % 2 ^ n := ⟨_, rfl⟩
      have hand := and_low x j n L (by have := HX.out; have : 2 ^ W ≤ 2 ^ 64 := Nat.pow_le_pow_right (by omega) hW; omega) hn8 hL
      rw [← hP0] at hand
      have HP0 := Lib.hid hP0
      clear hL hP0
      go_wp2
      go_quiet ((go_at_call 202; exact Calls.quiet_of_same (lowest_q _ L _ (by omega) HL.out)))
      go_wp2
      refine wp_region_tail 13 (by kernel_rfl) (by kernel_rfl) ?_
      have hP2 := hP.drewN (nq + 1)
      have hb2 := below_drewN hb (nq + 1)
      rw [World.drew_drewN]
      clear hc1 hc2 hf1 hP hb hand
      generalize wr.drewN (nq + 1) = w2 at *
      have hc1 := hP2.pos.cell 0
      have hc2 := hP2.box.cell 0
      have hf1 := hP2.pos.free 0
      have hqo : q < o.length := by have := hP2.len; omega
      obtain ⟨B, hB⟩ : ∃ B, B = o[q].toNat := ⟨_, rfl⟩
      have hcB : w2.cell? ⟨g, q, none⟩ = some (.int .u8 (B : Int)) := by
        rw [hP2.row.cell, List.getElem?_map, List.getElem?_eq_getElem hqo, hB]; rfl
      have hfB := hP2.row.free q
      obtain ⟨hk2, hl1, hl2, hl3, hl4⟩ := laid_at (piece := P) HQ.out HR.out HD.out hP2.len hn0 (by have := HN.out; omega) (by omega) (by rw [HP0.out]; exact Nat.mod_lt _ (Nat.pow_pos (by omega))) (by rw [HT.out]; exact HVal.out)
      rw [← hB] at hl1 hl2 hl4
      obtain ⟨S, hS⟩ : ∃ S, S = P * 2 ^ d := ⟨_, rfl⟩
      rw [← hS] at hl2 hl3 hl4
      have hsh : IntKind.u64.wrap ((P : Int) * 2 ^ d) = (S : Int) := by
        rw [IntKind.wrap_u64, show (P : Int) * 2 ^ d = (S : Int) by rw [hS]; simp]; omega
      have hs8 : IntKind.u8.wrap (S : Int) = (S : Int) := by rw [IntKind.wrap_u8]; omega
      have hs9 : (S : Int) % 256 = (S : Int) := by omega
      obtain ⟨C, hC⟩ : ∃ C, C = B + S := ⟨_, rfl⟩
      have hor := or_byte r B S hl1 hl3 hl2
      rw [← hC] at hor hl2 hl4
      have hga : g ≠ a := by have := hP2.gb; have := hP2.ba; omega
      have hc3 : (w2.setCell ⟨g, q, none⟩ (.int .u8 (C : Int))).cell? ⟨a, 0, none⟩ = some (.int .i64 (T : Int)) := (Row.far hP2.pos (Ne.symm hga) _).cell 0
      have hf3 : (w2.setCell ⟨g, q, none⟩ (.int .u8 (C : Int))).frozen? ⟨a, 0, none⟩ = false := (Row.far hP2.pos (Ne.symm hga) _).free 0
      have HL4 := Lib.hid hl4
      have HL2 := Lib.hid hl2
      clear hS hC hl1 hl2 hl3 hl4 hB
      simp only [List.take_succ_cons, List.take_zero, List.drop_succ_cons, List.drop_zero]
      repeat still_step
      refine wpStill_nil ?_
      go_wp2
      go_roundw
      case rel =>
        have hT2 : T + n = t + W - j := by have := HT.out; have := HJ.out; omega
        have hjk : j = k - n := HJ.out
        refine ⟨j, o.set q (UInt8.ofNat C), rfl, by omega, ?_, ?_, (hb2.setCell (Nat.le_refl _) _).setCell (by have := hP2.gb; have := hP2.ba; show g ≤ a; omega) _⟩
        · have h5 := hP2.step q (T + n) C HL2.out
          rw [Int.natCast_add] at h5
          rw [← hT2]
          exact h5
        · rw [HL4.out, ← hT2, HP0.out, hjk, piece_step V x W k n hk hnk]
      case measure => simp [intOf]; have := HJ.out; omega
    · obtain rfl : k = 0 := by omega
      go_wp2
      go_end0
      refine ⟨o, rfl, ?_, ?_, hb⟩
      · have := HT.out
        rw [show t + W = T by omega]
        exact hP
      · have := HVal.out
        rw [Nat.sub_zero, Nat.sub_zero, Nat.pow_zero, Nat.div_one] at this
        exact this
def PutterPost (g m : Nat) (out : List UInt8) (w : World) (e : Ending) (w' : World) : Prop :=
  e = .returned (.func (.func 201) #[] #[.pointer (some ⟨w.heap.size + 1, 0, none⟩), .pointer (some ⟨w.heap.size, 0, none⟩)]) ∧ Putter g w.heap.size (w.heap.size + 1) m 0 out w' ∧ Below w.heap.size w w'
theorem putter_any (g m : Nat) (out : List UInt8) (w : World) (hr : Row w g 5 (out.map bv)) (hl : out.length = m) :
    Calls Tryz.prog 175 #[.slice (some ⟨g, 0, none⟩) m m] w (PutterPost g m out w) := by
  have HL := Lib.hid hl
  clear hl
  go_enter Tryz.func175, Tryz.ntmps175
  go_wp2
  go_ret
  have hg := hr.lt
  have h1 : Row (w.alloc (.cells #[.slice (some ⟨g, 0, none⟩) m m] 38)) w.heap.size 38 [.slice (some ⟨g, 0, none⟩) m m] := heap_alloc_new w _
  refine ⟨rfl, ⟨hg, by omega, HL.out, (hr.alloc _).alloc _, h1.alloc _, ?_⟩, ((Below.refl _ _).alloc (Nat.le_refl _) _).alloc (by simp) _⟩
  have h2 := heap_alloc_new (w.alloc (.cells #[.slice (some ⟨g, 0, none⟩) m m] 38)) (.cells #[.int .i64 0] 3)
  have h3 : (w.alloc (.cells #[.slice (some ⟨g, 0, none⟩) m m] 38)).heap.size = w.heap.size + 1 := by simp
  rw [h3] at h2
  exact h2

/-- What is answered of numbers and a width that may be. -/
def packs (l : List Nat) (W : Nat) : List UInt8 × Int := if l.all (fun x => decide (x < 2 ^ W)) then (bpack l W, 0) else ([], 1)
theorem packs_ok {l : List Nat} {W : Nat} (h : ∀ x ∈ l, x < 2 ^ W) : packs l W = (bpack l W, 0) := by
  unfold packs; rw [if_pos (by simpa using h)]
theorem packs_no {l : List Nat} {W x : Nat} (hx : x ∈ l) (h : ¬ x < 2 ^ W) : packs l W = ([], 1) := by
  unfold packs; rw [if_neg (by simp; exact ⟨x, hx, by omega⟩)]
def PackRel (l : List Nat) (g b a m W : Nat) (w : World) (i : Value) (wr : World) : Prop :=
  ∃ (k : Nat) (out : List UInt8), i = .int .i64 (k : Int) ∧ k ≤ l.length ∧ Putter g b a m (W * k) out wr ∧ bval out = pval W (l.take k) * 2 ^ (8 * m - W * k) ∧ (∀ x ∈ l.take k, x < 2 ^ W) ∧ Below w.heap.size w wr
set_option maxHeartbeats 1000000 in
set_option maxRecDepth 100000 in
theorem pack_own (A : Option Addr) (n c : Nat) (l : List Nat) (W : Nat) (w : World) (hn : l.length = n) (hn4 : n ≤ 4096) (hW : W ≤ 64) (hl : Lies w A (l.map uv)) (h64 : ∀ x ∈ l, x < 2 ^ 64) :
    Calls Tryz.prog 140 #[.slice A n c, .int .i64 (W : Int)] w (RetEO w (packs l W)) := by
  have HN := Lib.hid hn
  have H64 := Lib.hid h64
  clear hn h64
  obtain ⟨m, hm⟩ : ∃ m, m = bsize n W := ⟨_, rfl⟩
  have hmW : W * n ≤ 8 * m := by rw [hm]; exact bsize_le n W
  have hm4 : m ≤ 32768 := by have := prod_le hn4 hW; unfold bsize at hm; omega
  have hsz := fun w => size_in n W w hn4 hW
  rw [← hm] at hsz
  have HS := Lib.hid hsz
  have HM := Lib.hid hm
  have HMW := Lib.hid hmW
  clear hsz hm hmW
  go_enter Tryz.func140, Tryz.ntmps140
  go_wp2_with (first | (go_at_call 173; refine (isCount_yes _ _ (by omega) (by omega)).mono ?_; rintro e w' ⟨rfl, rfl⟩) | (go_at_call 172; refine (isWidth_yes _ _ (by omega) (by omega)).mono ?_; rintro e w' ⟨rfl, rfl⟩) | (go_at_call 174; refine (HS.out _).mono ?_; rintro e w' ⟨rfl, rfl⟩) | (refine wpList_make elemB rfl _ _ rfl _ _ _ _ m w w.heap.size rfl rfl ?_ ?_ (by omega) (by omega) (Below.refl _ _) (Nat.le_refl _) ?_))
  · rfl
  · rfl
  intro w1 hr1 hb1
  have hr2 : Row w1 w.heap.size 5 ((List.replicate m (0 : UInt8)).map bv) := by simpa using hr1
  go_wp2_with fail
  refine (putter_any w.heap.size m (List.replicate m 0) w1 hr2 (by simp)).mono ?_
  rintro e w2 ⟨rfl, hP, hb2⟩
  obtain ⟨b, hbz⟩ : ∃ b, b = w1.heap.size := ⟨_, rfl⟩
  rw [← hbz] at hP ⊢
  have hbb : Below w.heap.size w w2 := hb1.trans (hb2.mono hb1.size)
  clear hr1 hr2 hb1 hb2 hbz
  go_wp2
  go_loopw [26] (PackRel l w.heap.size b (b + 1) m W w) (fun i _ => n - (intOf i).toNat)
  case atStart => exact ⟨0, List.replicate m 0, rfl, by omega, by rw [Nat.mul_zero]; exact hP, by rw [bval_zeros]; simp [pval], by simp, hbb⟩
  case round =>
    obtain ⟨k, out, rfl, hk, hP, hval, hall, hb⟩ := hrel
    have HV := Lib.hid hval
    have HA := Lib.hid hall
    clear hval hall
    have hk' : k ≤ n := by have := HN.out; omega
    by_cases hlt : k < n
    · have hkl : k < l.length := by have := HN.out; omega
      obtain ⟨ad, rfl, _, hcell⟩ := (hl.below hb).cell (k := k) (by simpa using hkl)
      obtain ⟨x, hx⟩ : ∃ x : Nat, x = l[k] := ⟨_, rfl⟩
      have hcx : wr.cell? (ad.add k) = some (.int .u64 (x : Int)) := by rw [hcell, List.getElem_map, hx]; rfl
      have hxm : x ∈ l := by rw [hx]; exact List.getElem_mem hkl
      have HX := Lib.hid hx
      clear hx hcell
      by_cases hx2 : x < 2 ^ W
      · have hz : (x : Int) / 2 ^ W = 0 := by
          have : ((x / 2 ^ W : Nat) : Int) = 0 := by rw [Nat.div_eq_of_lt hx2]; rfl
          simpa using this
        have hstep : W * k + W ≤ 8 * m := by
          have h1 : W * (k + 1) ≤ W * n := Nat.mul_le_mul_left _ hlt
          have := HMW.out
          rw [Nat.mul_add, Nat.mul_one] at h1
          omega
        have HX2 := Lib.hid hx2
        clear hx2
        go_wp2_with (go_at_call 201; refine (put1_any _ _ _ m _ W _ x out _ hP HV.out hW hstep (by omega) HX2.out).mono ?_; rintro e w3 ⟨out', rfl, hP', hv', hb'⟩)
        go_roundw
        case rel =>
          refine ⟨k + 1, out', by go_num, by omega, by rw [Nat.mul_add, Nat.mul_one]; exact hP', ?_, ?_, hb.trans hb'⟩
          · rw [hv', List.take_succ_eq_append_getElem hkl, pval_snoc, ← HX.out, Nat.mul_add, Nat.mul_one]
          · intro y hy
            rw [List.take_succ_eq_append_getElem hkl, List.mem_append] at hy
            rcases hy with hy | hy
            · exact HA.out y hy
            · rw [List.mem_singleton.1 hy, ← HX.out]; exact HX2.out
        case measure => simp [intOf]; omega
      · obtain ⟨y, hy⟩ : ∃ y, y = x / 2 ^ W := ⟨_, rfl⟩
        have hz : (x : Int) / 2 ^ W = (y : Int) := by rw [hy]; simp
        have hy0 : y ≠ 0 := by
          rw [hy]
          intro h
          rcases Nat.div_eq_zero_iff.1 h with h | h
          · have := Nat.two_pow_pos W; omega
          · exact hx2 h
        have d1 : ((y : Int) != 0) = true := by simpa using hy0
        have HNo := Lib.hid (packs_no hxm hx2)
        clear hx2 hy hy0
        go_wp2
        go_ret2
        rw [HNo.out]
        exact RetEO.nil _ hb
    · obtain rfl : k = n := by omega
      have hall : ∀ x ∈ l, x < 2 ^ W := by
        have := HA.out
        rw [List.take_of_length_le (by have := HN.out; omega)] at this
        exact this
      have HAll := Lib.hid hall
      clear hall
      go_wp2
      go_ret2
      rw [packs_ok HAll.out]
      have hv := HV.out
      rw [List.take_of_length_le (by have := HN.out; omega)] at hv
      have hob : out = bpack l W := by
        unfold bpack
        rw [HN.out, ← HM.out]
        exact eq_be hP.len hv
      exact ⟨_, rfl, by rw [← hob, hP.len]; exact own_of_row hP.row (by rw [List.length_map]; exact hP.len) (Nat.le_refl _) (by omega), hb⟩
/-- A width that is none. -/
theorem pack_out (A : Option Addr) (n c : Nat) (W : Int) (w : World) (hW : W < 0 ∨ 64 < W) :
    Calls Tryz.prog 140 #[.slice A n c, .int .i64 W] w (RetEO w ([], 1)) := by
  go_enter Tryz.func140, Tryz.ntmps140
  go_wp2_with (go_at_call 172; refine (isWidth_no _ _ (by omega)).mono ?_; rintro e w' ⟨rfl, rfl⟩)
  go_ret2
  exact RetEO.nil _ (Below.refl _ _)
/-- What Pack answers, of any width: 4096 numbers at most. -/
def packsAny (l : List Nat) (W : Int) : List UInt8 × Int := if W < 0 ∨ 64 < W then ([], 1) else packs l W.toNat
theorem packsAny_in (l : List Nat) (W : Nat) (h : W ≤ 64) : packsAny l W = packs l W := by unfold packsAny; rw [if_neg (by omega), Int.toNat_natCast]
theorem pack_isO {l : List Nat} {v : Value} {w : World} (W : Int) (hl : IsU l v w) (h4 : l.length ≤ 4096) (h64 : ∀ x ∈ l, x < 2 ^ 64) :
    Calls Tryz.prog 140 #[v, .int .i64 W] w (RetEO w (packsAny l W)) := by
  obtain ⟨A, c, rfl, _, _, _, h3⟩ := hl
  by_cases h : W < 0 ∨ 64 < W
  · unfold packsAny
    rw [if_pos h]
    exact pack_out _ _ _ _ _ h
  · obtain ⟨K, rfl⟩ := Int.eq_ofNat_of_zero_le (show 0 ≤ W by omega)
    rw [packsAny_in _ _ (by omega)]
    exact pack_own A _ c l K w rfl h4 (by omega) h3 h64
theorem pack_is {l : List Nat} {v : Value} {w : World} (W : Int) (hl : IsU l v w) (h4 : l.length ≤ 4096) (h64 : ∀ x ∈ l, x < 2 ^ 64) :
    Calls Tryz.prog 140 #[v, .int .i64 W] w (RetE w (packsAny l W)) := (pack_isO W hl h4 h64).mono fun _ _ h => h.e
end Go.Proofs.YtblpkmmhmdpkjaaGreatDoor

/- The contract of what taker hands out, of taker itself, and of Unpack. -/



namespace Go.Proofs.YtblpkmmhmdpkjaaGreatDoor

open Go.RowKit

/-- What a taker holds: the slice of the bytes in block b, the bit that comes next in block a; the bytes lie in older memory. -/
structure Taker (z b a m c t : Nat) (A : Option Addr) (l : List UInt8) (w : World) : Prop where
  zb : z ≤ b
  ba : b < a
  len : l.length = m
  old : ∃ w0, Lies w0 A (l.map bv) ∧ w0.heap.size ≤ z ∧ Below w0.heap.size w0 w
  box : Row w b 38 [.slice A m c]
  pos : Row w a 3 [.int .i64 (t : Int)]
theorem Taker.lies {z b a m c t : Nat} {A : Option Addr} {l : List UInt8} {w : World} (h : Taker z b a m c t A l w) : Lies w A (l.map bv) :=
  h.old.elim fun _ ⟨h1, _, h3⟩ => h1.below h3
theorem Taker.far {z b a m c t : Nat} {A : Option Addr} {l : List UInt8} {w : World} (h : Taker z b a m c t A l w) {g : Nat} (hg : z ≤ g) (hgb : g < b) (k : Nat) (u : Value) : Taker z b a m c t A l (w.setCell ⟨g, k, none⟩ u) := by
  have := h.ba
  refine ⟨h.zb, h.ba, h.len, ?_, Row.far h.box (show b ≠ g by omega) _, Row.far h.pos (show a ≠ g by omega) _⟩
  obtain ⟨w0, h1, h2, h3⟩ := h.old
  exact ⟨w0, h1, h2, h3.setCell (show w0.heap.size ≤ g by omega) _⟩
/-- What is answered of bytes, how many and a width that may be. -/
def unpacks (l : List UInt8) (M W : Nat) : List Nat × List UInt8 × Int :=
  if l.length < bsize M W then ([], [], 2) else if bval (l.take (bsize M W)) % 2 ^ (8 * bsize M W - W * M) = 0 then (bnums (bval (l.take (bsize M W))) (8 * bsize M W) W M, l.drop (bsize M W), 0) else ([], [], 2)
/-- Numbers, bytes and an error that a call answers. -/
def RetUE (w : World) (p : List Nat × List UInt8 × Int) (e : Ending) (w' : World) : Prop :=
  ∃ u v, e = .returned (.tuple #[u, v, .int .i64 p.2.2]) ∧ IsU p.1 u w' ∧ IsB p.2.1 v w' ∧ Below w.heap.size w w'
theorem isU_nil (w : World) : IsU [] (.slice none 0 0) w := ⟨none, 0, rfl, by simp, by simp, by unfold maxLen; omega, Lies.nil⟩
theorem RetUE.nil {w w' : World} (n : Int) (hb : Below w.heap.size w w') : RetUE w ([], [], n) (.returned (.tuple #[.slice none 0 0, .slice none 0 0, .int .i64 n])) w' := ⟨_, _, rfl, isU_nil _, isB_nil _, hb⟩
/-- The same, numbers and bytes in rows of the call's own. -/
def RetUO (w : World) (p : List Nat × List UInt8 × Int) (e : Ending) (w' : World) : Prop :=
  ∃ u v, e = .returned (.tuple #[u, v, .int .i64 p.2.2]) ∧ w'.ownsRow w.heap.size 101 1 u p.1.length (p.1.map uv) ∧ OwnB w p.2.1 v w' ∧ Below w.heap.size w w'
theorem RetUO.nil {w w' : World} (n : Int) (hb : Below w.heap.size w w') : RetUO w ([], [], n) (.returned (.tuple #[.slice none 0 0, .slice none 0 0, .int .i64 n])) w' := ⟨_, _, rfl, World.ownsRow_nil _ _ _ _, ⟨0, World.ownsRow_nil _ _ _ _⟩, hb⟩
end Go.Proofs.YtblpkmmhmdpkjaaGreatDoor

/- The contract of bits.Unpack. -/



namespace Go.Proofs.YtblpkmmhmdpkjaaGreatDoor

open Go.RowKit

/-- What Unpack answers, of any two numbers. -/
def unpacksAny (l : List UInt8) (M W : Int) : List Nat × List UInt8 × Int := if 0 ≤ M ∧ M ≤ 4096 ∧ 0 ≤ W ∧ W ≤ 64 then unpacks l M.toNat W.toNat else ([], [], 1)
theorem unpacksAny_in (l : List UInt8) (M W : Nat) (hM : M ≤ 4096) (hW : W ≤ 64) : unpacksAny l M W = unpacks l M W := by
  unfold unpacksAny
  rw [if_pos (by omega), Int.toNat_natCast, Int.toNat_natCast]
theorem unpacks_back {l : List Nat} {W : Nat} (h : ∀ x ∈ l, x < 2 ^ W) (b : List UInt8) : unpacks (bpack l W ++ b) l.length W = (l, b, 0) := by
  have hlen := bpack_len l W
  have ht : (bpack l W ++ b).take (bsize l.length W) = bpack l W := by rw [← hlen]; simp
  have hd : (bpack l W ++ b).drop (bsize l.length W) = b := by rw [← hlen]; simp
  unfold unpacks
  rw [if_neg (by rw [List.length_append, hlen]; omega), ht, hd, if_pos (bpack_spare h), bnums_bpack h]
end Go.Proofs.YtblpkmmhmdpkjaaGreatDoor

/- The contract of the reference's Pack. -/



namespace Go.Proofs.YtblpkmmhmdpkjaaGreatDoor

open Go.RowKit

end Go.Proofs.YtblpkmmhmdpkjaaGreatDoor

/- The contract of the reference's Unpack. -/





namespace Go.Proofs.YtblpkmmhmdpkjaaGreatDoor

open Go.RowKit

end Go.Proofs.YtblpkmmhmdpkjaaGreatDoor

/- Numbers laid down in as few bytes as they need, as plain functions on lists of bytes, and what follows of them. No program is named here. -/



namespace Go.Proofs.YtblpkmmhmdpkjaaGreatDoor

/-- The bytes of a number: seven bits a byte, the lowest first (f: at least as many steps as are wanted). -/
def vputF : Nat → Nat → List UInt8
  | 0, x => [UInt8.ofNat x]
  | f + 1, x => if x < 128 then [UInt8.ofNat x] else UInt8.ofNat (x % 128 + 128) :: vputF f (x / 128)
def vput (x : Nat) : List UInt8 := vputF x x

/-- May a number's last byte be c at place i? -/
def vend (i c : Nat) : Bool := if i = 9 then c == 1 else c != 0 || i == 0

/-- What is read off the front of bytes, at place i. -/
def vgo : Nat → List UInt8 → Option (Nat × List UInt8)
  | _, [] => none
  | i, c :: r => if c.toNat < 128 then (if vend i c.toNat = true then some (c.toNat, r) else none) else if 9 ≤ i then none else (vgo (i + 1) r).map fun p => (c.toNat - 128 + 128 * p.1, p.2)

def vtake (l : List UInt8) : Option (Nat × List UInt8) := vgo 0 l

theorem vputF_any : ∀ (f g x : Nat), x ≤ f → x ≤ g → vputF f x = vputF g x := by
  intro f
  induction f with
  | zero =>
    intro g x hf _
    obtain rfl : x = 0 := by omega
    cases g with
    | zero => rfl
    | succ g => show [UInt8.ofNat 0] = if 0 < 128 then _ else _; rw [if_pos (by omega)]
  | succ f ih =>
    intro g x hf hg
    cases g with
    | zero =>
      obtain rfl : x = 0 := by omega
      show (if 0 < 128 then _ else _) = [UInt8.ofNat 0]; rw [if_pos (by omega)]
    | succ g =>
      show (if x < 128 then _ else _) = (if x < 128 then _ else _)
      by_cases h : x < 128
      · rw [if_pos h, if_pos h]
      · rw [if_neg h, if_neg h, ih g (x / 128) (by omega) (by omega)]
theorem vput_lt {x : Nat} (h : x < 128) : vput x = [UInt8.ofNat x] := by
  unfold vput
  cases x with
  | zero => rfl
  | succ n => show (if n + 1 < 128 then _ else _) = _; rw [if_pos h]
theorem vput_ge {x : Nat} (h : 128 ≤ x) : vput x = UInt8.ofNat (x % 128 + 128) :: vput (x / 128) := by
  unfold vput
  cases x with
  | zero => omega
  | succ n =>
    show (if n + 1 < 128 then _ else _) = _
    rw [if_neg (by omega), vputF_any n ((n + 1) / 128) ((n + 1) / 128) (by omega) (by omega)]
theorem vput_len_pos (x : Nat) : 1 ≤ (vput x).length := by
  by_cases h : x < 128
  · rw [vput_lt h]; simp
  · rw [vput_ge (by omega)]; simp

/-- n bytes are enough just below 128 ^ n. -/
theorem vput_len_le (n : Nat) : ∀ x, x < 128 ^ (n + 1) → (vput x).length ≤ n + 1 := by
  induction n with
  | zero => intro x h; rw [vput_lt (by simpa using h)]; simp
  | succ n ih =>
    intro x h
    by_cases hx : x < 128
    · rw [vput_lt hx]; simp
    · rw [vput_ge (by omega), List.length_cons]
      have := ih (x / 128) (by rw [Nat.pow_succ] at h; omega)
      omega
theorem vput_len_10 {x : Nat} (h : x < 18446744073709551616) : (vput x).length ≤ 10 := vput_len_le 9 x (by
  have : (128 : Nat) ^ 10 = 1180591620717411303424 := by decide
  show x < 128 ^ 10
  omega)

/-- The k-th byte, if it is not the last. -/
theorem vput_drop (k : Nat) : ∀ x, k < (vput x).length → (vput x).drop k = vput (x / 128 ^ k) := by
  induction k with
  | zero => intro x _; simp
  | succ k ih =>
    intro x h
    by_cases hx : x < 128
    · rw [vput_lt hx] at h; simp at h
    · rw [vput_ge (by omega)] at h ⊢
      rw [List.drop_succ_cons, ih _ (by simpa using h), Nat.div_div_eq_div_mul, Nat.pow_succ, Nat.mul_comm]
theorem vput_getElem (k x : Nat) (h : k + 1 < (vput x).length) : (vput x)[k]'(by omega) = UInt8.ofNat (x / 128 ^ k % 128 + 128) ∧ 128 ≤ x / 128 ^ k := by
  have hd := vput_drop k x (by omega)
  have hx : 128 ≤ x / 128 ^ k := by
    by_cases hx : x / 128 ^ k < 128
    · rw [vput_lt hx] at hd
      have := congrArg List.length hd
      simp at this
      omega
    · omega
  refine ⟨?_, hx⟩
  rw [vput_ge hx, List.drop_eq_getElem_cons (by omega)] at hd
  injection hd
theorem vput_last (k x : Nat) (h : k + 1 = (vput x).length) : (vput x)[k]'(by omega) = UInt8.ofNat (x / 128 ^ k) ∧ x / 128 ^ k < 128 := by
  have hd := vput_drop k x (by omega)
  have hx : x / 128 ^ k < 128 := by
    by_cases hx : x / 128 ^ k < 128
    · exact hx
    · rw [vput_ge (x := x / 128 ^ k) (by omega)] at hd
      have h1 := congrArg List.length hd
      have h2 := vput_len_pos (x / 128 ^ k / 128)
      rw [List.length_drop, List.length_cons] at h1
      omega
  refine ⟨?_, hx⟩
  rw [vput_lt hx, List.drop_eq_getElem_cons (by omega)] at hd
  injection hd

theorem vput_take_last (j x : Nat) (h : j + 1 = (vput x).length) : (vput x).take j ++ [UInt8.ofNat (x / 128 ^ j)] = vput x := by
  obtain ⟨h4, _⟩ := vput_last j x h
  have h8 := List.take_succ_eq_append_getElem (l := vput x) (i := j) (by omega)
  rw [List.take_of_length_le (by omega), h4] at h8
  exact h8.symm

theorem bitLen_or_one {y : Nat} (h0 : y ≠ 0) (h : y < 2 ^ 64) : Lib.bitLen (y ||| 1) = Lib.bitLen y := by
  have h2 : (y ||| 1) / 2 = y / 2 := by
    have h3 : (y ||| 1) >>> 1 = y >>> 1 := by
      rw [Nat.shiftRight_or_distrib]; simp
    simpa [Nat.shiftRight_succ] using h3
  have h4 : y ||| 1 < 2 ^ 64 := Nat.or_lt_two_pow h (by decide)
  have h5 : y ||| 1 ≠ 0 := by
    intro h6
    have := Nat.left_le_or (n := y) (m := 1)
    omega
  rw [Lib.bitLen_half _ h5 h4, Lib.bitLen_half _ h0 h, h2]

theorem bitLen_small : ∀ n : Fin 128, (Lib.bitLen (n.val ||| 1) + 6) / 7 = 1 := by decide +kernel

theorem bitLen_vput (x : Nat) : x < 2 ^ 64 → (Lib.bitLen (x ||| 1) + 6) / 7 = (vput x).length := by
  induction x using Nat.strongRecOn with
  | ind x ih =>
    intro hx
    by_cases h : x < 128
    · rw [vput_lt h]; exact bitLen_small ⟨x, h⟩
    · rw [vput_ge (by omega), List.length_cons, ← ih (x / 128) (by omega) (by omega), bitLen_or_one (by omega) hx, bitLen_or_one (by omega) (by omega),
        Lib.bitLen_shift 7 x (by omega) hx]
      show (7 + Lib.bitLen (x / 128) + 6) / 7 = _
      omega

theorem pow_le_of_lt {i x : Nat} (h : x * 128 ^ i < 18446744073709551616) (hx : 128 ≤ x) : i ≤ 8 := by
  by_cases hi : 9 ≤ i
  · have h1 : (128 : Nat) ^ 9 ≤ 128 ^ i := Nat.pow_le_pow_right (by omega) hi
    have h2 : (128 : Nat) ^ 9 = 9223372036854775808 := by decide
    have h3 : 128 * 9223372036854775808 ≤ x * 128 ^ i := Nat.mul_le_mul hx (by omega)
    omega
  · omega

/-- What was put is taken as it was. -/
theorem vgo_put (r : List UInt8) (x : Nat) : ∀ i, i ≤ 9 → x * 128 ^ i < 18446744073709551616 → (i = 0 ∨ x ≠ 0) → vgo i (vput x ++ r) = some (x, r) := by
  induction x using Nat.strongRecOn with
  | ind x ih =>
    intro i hi hx h0
    by_cases h : x < 128
    · rw [vput_lt h]
      have h1 : (UInt8.ofNat x).toNat = x := by simp; omega
      have h2 : vend i x = true := by
        unfold vend
        by_cases h9 : i = 9
        · subst h9
          rw [if_pos rfl]
          have h2 : (128 : Nat) ^ 9 = 9223372036854775808 := by decide
          rw [h2] at hx
          have : x = 1 := by omega
          simp [this]
        · rw [if_neg h9]
          simp; omega
      simp only [List.cons_append, List.nil_append, vgo, h1, if_pos h, if_pos h2]
    · have h8 := pow_le_of_lt hx (by omega)
      rw [vput_ge (by omega)]
      have h1 : (UInt8.ofNat (x % 128 + 128)).toNat = x % 128 + 128 := by simp; omega
      have h3 : x / 128 * 128 ^ (i + 1) < 18446744073709551616 := by
        rw [Nat.pow_succ, Nat.mul_comm (128 ^ i) 128, ← Nat.mul_assoc]
        exact Nat.lt_of_le_of_lt (Nat.mul_le_mul_right _ (by omega)) hx
      simp only [List.cons_append, vgo, h1, if_neg (show ¬ x % 128 + 128 < 128 by omega), if_neg (show ¬ 9 ≤ i by omega), ih (x / 128) (by omega) (i + 1) (by omega) h3 (by omega), Option.map_some]
      congr 2
      omega
theorem vtake_put {x : Nat} (h : x < 18446744073709551616) (r : List UInt8) : vtake (vput x ++ r) = some (x, r) := vgo_put r x 0 (by omega) (by simpa using h) (.inl rfl)

end Go.Proofs.YtblpkmmhmdpkjaaGreatDoor

/- Numbers made ones that are not below 0, and back: the plain mathematics (varint). -/

namespace Go.Proofs.YtblpkmmhmdpkjaaGreatDoor

/-- A number made one that is not below 0, and back. -/
def vzig (x : Int) : Int := if x < 0 then -2 * x - 1 else 2 * x
def vzag (u : Int) : Int := if u % 2 = 1 then -(u / 2) - 1 else u / 2
theorem vzig_neg {x : Int} (h : x < 0) : vzig x = -2 * x - 1 := if_pos h
theorem vzig_pos {x : Int} (h : 0 ≤ x) : vzig x = 2 * x := if_neg (by omega)
theorem vzig_bd {x : Int} (h0 : -9223372036854775808 ≤ x) (h1 : x ≤ 9223372036854775807) : 0 ≤ vzig x ∧ vzig x < 18446744073709551616 := by unfold vzig; split <;> omega
theorem vzag_vzig (x : Int) : vzag (vzig x) = x := by unfold vzag vzig; split <;> split <;> omega
end Go.Proofs.YtblpkmmhmdpkjaaGreatDoor

/- Contracts of varint's functions that only compute with numbers. -/









namespace Go.Proofs.YtblpkmmhmdpkjaaGreatDoor

open Go.RowKit

theorem zig_any (x : Int) (w : World) (h0 : -9223372036854775808 ≤ x) (h1 : x ≤ 9223372036854775807) :
    Calls Tryz.prog 165 #[.int .i64 x] w fun e w' => e = .returned (.int .u64 (vzig x)) ∧ w = w' := by
  by_cases hx : x < 0
  · have hb := u64_not (IntKind.u64.wrap (IntKind.u64.wrap x * 2)) (by rw [IntKind.wrap_u64]; omega) (by rw [IntKind.wrap_u64]; omega)
    have hs : IntKind.u64.signed = false := rfl
    go_enter Tryz.func165, Tryz.ntmps165
    go_wp2
    go_ret
    exact ⟨ret_int (by rw [vzig_neg hx]; simp only [IntKind.wrap_u64]; omega), rfl⟩
  · go_enter Tryz.func165, Tryz.ntmps165
    go_wp2
    go_ret
    exact ⟨ret_int (by rw [vzig_pos (by omega)]; omega), rfl⟩
theorem vsize_any (u : Int) (w : World) (h0 : 0 ≤ u) (h1 : u < 18446744073709551616) :
    Calls Tryz.prog 205 #[.int .u64 u] w fun e w' => e = .returned (.int .i64 ((vput u.toNat).length : Nat)) ∧ w = w' := by
  have ho := u64_or1 u h0 h1
  have hl : u.toNat ||| 1 < 2 ^ 64 := Nat.or_lt_two_pow (by omega) (by omega)
  have HB := Lib.hid (bitLen_vput u.toNat (by omega))
  have hle := vput_len_10 (x := u.toNat) (by omega)
  generalize (vput u.toNat).length = n at *
  generalize u.toNat ||| 1 = m at *
  have hle2 : Lib.bitLen m ≤ 70 := by have := HB.out; omega
  go_enter Tryz.func205, Tryz.ntmps205
  go_wp2_with (go_at_call 94; refine (Tryz.bits_Len64 _ _ (by omega) (by omega)).mono ?_; rintro e w' ⟨rfl, rfl⟩)
  go_ret
  exact ⟨ret_int (by have := HB.out; omega), rfl⟩
end Go.Proofs.YtblpkmmhmdpkjaaGreatDoor

/- The contract of the reference's Put. -/



namespace Go.Proofs.YtblpkmmhmdpkjaaGreatDoor

open Go.RowKit

theorem bv_low {y : Nat} (h : y < 256) : Value.int .u8 (y : Int) = bv (UInt8.ofNat y) := by unfold bv; congr 1; simp; omega

end Go.Proofs.YtblpkmmhmdpkjaaGreatDoor

/- The contract of varint.Put. -/





namespace Go.Proofs.YtblpkmmhmdpkjaaGreatDoor

open Go.RowKit

/-- What the loop holds: j bytes are laid down behind l. -/
def PutRel (l : List UInt8) (X k : Nat) (w : World) (t : TypeId) (x i : Value) (wr : World) : Prop :=
  ∃ j : Nat, i = .int .i64 (j : Int) ∧ j + 1 ≤ k ∧ x = .int .u64 ((X / 128 ^ j : Nat) : Int) ∧ Row wr w.heap.size t ((l ++ (vput X).take j).map bv ++ List.replicate (k - j) (bv 0)) ∧ Below w.heap.size w wr

set_option maxHeartbeats 400000 in
set_option maxRecDepth 100000 in
theorem put_own (A : Option Addr) (n c : Nat) (x : Int) (l : List UInt8) (w : World) (_hA : A = none → n = 0) (hn : l.length = n) (hnb : n ≤ 1000000) (hl : Lies w A (l.map bv)) (h0 : 0 ≤ x) (h1 : x < 18446744073709551616) :
    Calls Tryz.prog 182 #[.slice A n c, .int .u64 x] w (RetOwn w (l ++ vput x.toNat)) := by
  have h10 := vput_len_10 (x := x.toNat) (by omega)
  have hp := vput_len_pos x.toNat
  obtain ⟨k, hk⟩ : ∃ k, k = (vput x.toNat).length := ⟨_, rfl⟩
  have HK := Lib.hid hk
  have hsz := vsize_any x w h0 h1
  rw [← hk] at hsz h10 hp
  have HS := Lib.hid hsz
  clear hk hsz
  have hm : (l.map bv).length = n := by simpa using hn
  go_enter Tryz.func182, Tryz.ntmps182
  go_wp2_with (first | (go_at_call 205; refine HS.out.mono ?_; rintro e w' ⟨rfl, rfl⟩) | (refine wpList_make elemB rfl _ _ rfl _ _ _ _ (n + k) w w.heap.size rfl rfl ?_ ?_ (by omega) (by omega) (Below.refl _ _) (Nat.le_refl _) ?_))
  · omega
  · omega
  intro w1 hr1 hb1
  have hl1 := hl.below hb1
  have hlr : (List.replicate (n + k) (bv 0)).length = n + k := by simp
  go_wp2_with (refine wpList_copyRow elemB rfl (.tmp 16) (.tmp 17) rfl _ _ _ _ _ _ _ _ (l.map bv) w.heap.size w rfl rfl hr1 hm hl1 (bv_one l) (by omega) (by omega) hb1 (Nat.le_refl _) ?_)
  intro w2 hr2 hb2
  have hr2' : Row w2 w.heap.size 5 (l.map bv ++ List.replicate k (bv 0)) := by simpa [hn] using hr2
  clear hr2 hr1 hb1 hl1 hlr HS
  go_wp2
  obtain ⟨X, rfl⟩ := Int.eq_ofNat_of_zero_le h0
  rw [Int.toNat_natCast] at *
  go_loopw [1, 25] (PutRel l X k w 5) (fun _ i _ => k - (intOf i).toNat)
  case atStart => exact ⟨0, rfl, by omega, by simp, by simpa using hr2', hb2⟩
  case round =>
    obtain ⟨j, rfl, hj, rfl, hr, hb⟩ := hrel
    clear hr2' hb2
    have hll : ((l ++ (vput X).take j).map bv).length = n + j := by
      have := HK.out
      simp; omega
    have hc0 : wr.cell? ⟨w.heap.size, n + j, none⟩ = some (bv 0) := by
      rw [hr.cell, List.getElem?_append_right (by omega), hll, List.getElem?_replicate]
      simp; omega
    have hf0 := hr.free (n + j)
    generalize hY : X / 128 ^ j = Y at *
    have HY := Lib.hid hY
    clear hY
    have hy : (Y : Int) < 18446744073709551616 := by
      have := Nat.div_le_self X (128 ^ j)
      rw [HY.out] at this
      omega
    have ho := u8_or128 ((Y : Int) % 256) (by omega) (by omega)
    by_cases hlt : j + 1 < k
    · have hq : ((j : Int) < (k : Int) - 1) := by omega
      go_wp2
      go_roundw
      case rel =>
        refine ⟨j + 1, by go_num, by omega, ?_, ?_, hb.setCell (Nat.le_refl _) _⟩
        · rw [Nat.pow_succ, ← Nat.div_div_eq_div_mul, HY.out]; go_num
        · have h2 := hr.set_ (n + j) (.int .u8 ((Y : Int) % 128 + 128))
          have h3 : Value.int .u8 ((Y : Int) % 128 + 128) = bv (UInt8.ofNat (Y % 128 + 128)) := by
            rw [show (Y : Int) % 128 + 128 = ((Y % 128 + 128 : Nat) : Int) by omega, bv_low (by omega)]
          have h4 := (vput_getElem j X (by have := HK.out; omega)).1
          rw [h3] at h2 ⊢
          have h5 : (List.map bv (l ++ List.take j (vput X)) ++ List.replicate (k - j) (bv 0)).set (n + j) (bv (UInt8.ofNat (Y % 128 + 128))) =
              List.map bv (l ++ List.take (j + 1) (vput X)) ++ List.replicate (k - (j + 1)) (bv 0) := by
            rw [List.set_append_right _ _ (by omega), hll, Nat.sub_self, show k - j = k - (j + 1) + 1 by omega, List.replicate_succ, List.set_cons_zero,
              List.take_succ_eq_append_getElem (by have := HK.out; omega), h4, HY.out]
            simp
          rw [h5] at h2
          exact h2
      case measure => simp [intOf]; omega
    · obtain rfl : k = j + 1 := by omega
      have hq : ¬ ((j : Int) < ((j + 1 : Nat) : Int) - 1) := by omega
      go_wp2
      go_ret
      have h4 := vput_take_last j X HK.out
      have h5 := (vput_last j X HK.out).2
      rw [HY.out] at h4 h5
      have h2 := hr.set_ (n + j) (.int .u8 ((Y : Int) % 256))
      have h6 : (List.map bv (l ++ List.take j (vput X)) ++ List.replicate (j + 1 - j) (bv 0)).set (n + j) (.int .u8 ((Y : Int) % 256)) = List.map bv (l ++ vput X) := by
        have h7 : Value.int .u8 ((Y : Int) % 256) = bv (UInt8.ofNat Y) := by
          rw [show (Y : Int) % 256 = ((Y : Nat) : Int) by omega, bv_low (by omega)]
        rw [List.set_append_right _ _ (by omega), hll, Nat.sub_self, show j + 1 - j = 0 + 1 by omega, List.replicate_succ, List.set_cons_zero, h7, List.replicate_zero]
        conv => rhs; rw [← h4]
        simp
      rw [h6] at h2
      have h9 : (l ++ vput X).length = n + (j + 1) := by have := HK.out; rw [List.length_append]; omega
      exact ⟨.slice (some ⟨w.heap.size, 0, none⟩) (n + (j + 1)) (n + (j + 1)), rfl, by rw [h9]; exact own_of_row h2 (by rw [List.length_map]; exact h9) (Nat.le_refl _) (by omega), hb.setCell (Nat.le_refl _) _⟩
end Go.Proofs.YtblpkmmhmdpkjaaGreatDoor

/- The contract of varint.Take. -/







namespace Go.Proofs.YtblpkmmhmdpkjaaGreatDoor

open Go.RowKit

/-- What a call answers that takes a number off bytes. -/
def RetT (k : IntKind) (w : World) (o : Option (Int × List UInt8)) (e : Ending) (w' : World) : Prop :=
  match o with
  | none => e = .returned (.tuple #[.int k 0, .slice none 0 0, .int .i64 2]) ∧ Below w.heap.size w w'
  | some p => ∃ A c, e = .returned (.tuple #[.int k p.1, .slice A p.2.length c, .int .i64 0]) ∧ (A = none → p.2.length = 0) ∧ p.2.length ≤ c ∧ c ≤ maxLen ∧ OwnB w p.2 (.slice A p.2.length c) w' ∧ Below w.heap.size w w'

end Go.Proofs.YtblpkmmhmdpkjaaGreatDoor

/- The contract of the reference's Take. -/











namespace Go.Proofs.YtblpkmmhmdpkjaaGreatDoor

open Go.RowKit

end Go.Proofs.YtblpkmmhmdpkjaaGreatDoor

/- Contracts of the numbers with a sign, or without, and of what stands at the head of all statements. -/





namespace Go.Proofs.YtblpkmmhmdpkjaaGreatDoor

open Go.RowKit

/-- The number that is laid down. -/
def vint (x : Int) (s : Bool) : Nat := if s = true then (vzig x).toNat else (x % 18446744073709551616).toNat
/-- What is taken as a number with a sign, or without. -/
def vtint (l : List UInt8) (s : Bool) : Option (Int × List UInt8) :=
  match vtake l, s with
  | none, _ => none
  | some p, true => some (vzag (p.1 : Int), p.2)
  | some p, false => if 9223372036854775808 ≤ (p.1 : Int) then none else some ((p.1 : Int), p.2)
theorem vtint_true {l r : List UInt8} {u : Nat} (h : vtake l = some (u, r)) : vtint l true = some (vzag (u : Int), r) := by unfold vtint; rw [h]
theorem vtint_small {l r : List UInt8} {u : Nat} (h : vtake l = some (u, r)) (hu : (u : Int) < 9223372036854775808) : vtint l false = some ((u : Int), r) := by
  unfold vtint; rw [h]; exact if_neg (by show ¬ (9223372036854775808 : Int) ≤ (u : Int); omega)
set_option maxHeartbeats 400000 in
theorem putInt_own (A : Option Addr) (n c : Nat) (x : Int) (s : Bool) (l : List UInt8) (w : World) (hA : A = none → n = 0) (hn : l.length = n) (hnb : n ≤ 1000000) (hl : Lies w A (l.map bv)) (h0 : -9223372036854775808 ≤ x) (h1 : x ≤ 9223372036854775807) :
    Calls Tryz.prog 153 #[.slice A n c, .int .i64 x, .bool s] w (RetOwn w (l ++ vput (vint x s))) := by
  cases s with
  | true =>
    obtain ⟨hz0, hz1⟩ := vzig_bd h0 h1
    go_enter Tryz.func153, Tryz.ntmps153
    go_wp2_with (first | (go_at_call 165; refine (zig_any _ _ h0 h1).mono ?_; rintro e w' ⟨rfl, rfl⟩) | (go_at_call 182; refine (put_own _ _ _ _ l _ hA hn hnb hl hz0 hz1).mono ?_; intro e w' h; obtain ⟨v, rfl, hv, hb⟩ := h; have HV := Lib.hid hv; clear hv))
    go_ret
    exact ⟨_, rfl, HV.out, hb⟩
  | false =>
    have hw : IntKind.u64.wrap x = x % 18446744073709551616 := IntKind.wrap_u64 x
    have hu0 : 0 ≤ x % 18446744073709551616 := by omega
    have hu1 : x % 18446744073709551616 < 18446744073709551616 := by omega
    by_cases hx : 0 ≤ x
    · have he : x % 18446744073709551616 = x := by omega
      have HE := Lib.hid he
      clear he hu0 hu1 hw
      go_enter Tryz.func153, Tryz.ntmps153
      go_wp2_with (go_at_call 182; refine (put_own _ _ _ _ l _ hA hn hnb hl hx (by omega)).mono ?_; intro e w' h; obtain ⟨v, rfl, hv, hb⟩ := h; have HV := Lib.hid hv; clear hv)
      go_ret
      unfold vint
      rw [if_neg (by decide), HE.out]
      exact ⟨_, rfl, HV.out, hb⟩
    · have hx' : x < 0 := by omega
      go_enter Tryz.func153, Tryz.ntmps153
      go_wp2_with (go_at_call 182; refine (put_own _ _ _ _ l _ hA hn hnb hl hu0 hu1).mono ?_; intro e w' h; obtain ⟨v, rfl, hv, hb⟩ := h; have HV := Lib.hid hv; clear hv)
      go_ret
      exact ⟨_, rfl, HV.out, hb⟩

theorem putInt_any (A : Option Addr) (n c : Nat) (x : Int) (s : Bool) (l : List UInt8) (w : World) (hA : A = none → n = 0) (hn : l.length = n) (hnb : n ≤ 1000000) (hl : Lies w A (l.map bv)) (h0 : -9223372036854775808 ≤ x) (h1 : x ≤ 9223372036854775807) :
    Calls Tryz.prog 153 #[.slice A n c, .int .i64 x, .bool s] w (RetB w (l ++ vput (vint x s))) := (putInt_own A n c x s l w hA hn hnb hl h0 h1).mono fun _ _ h => h.retB
end Go.Proofs.YtblpkmmhmdpkjaaGreatDoor

/- The contracts of varint and of its reference, said of opaque values that hold bytes. -/



namespace Go.Proofs.YtblpkmmhmdpkjaaGreatDoor

open Go.RowKit

def TakenN (o : Option (Int × List UInt8)) : Int := match o with | none => 0 | some p => p.1
def TakenR (o : Option (Int × List UInt8)) : List UInt8 := match o with | none => [] | some p => p.2
def TakenE (o : Option (Int × List UInt8)) : Int := match o with | none => 2 | some _ => 0
theorem RetT.parts {k : IntKind} {w w' : World} {o : Option (Int × List UInt8)} {e : Ending} (h : RetT k w o e w') :
    ∃ r, e = .returned (.tuple #[.int k (TakenN o), r, .int .i64 (TakenE o)]) ∧ IsB (TakenR o) r w' ∧ Below w.heap.size w w' := by
  cases o with
  | none => exact ⟨_, h.1, isB_nil _, h.2⟩
  | some p =>
    obtain ⟨A, c, h1, h2, h3, h4, h5, h6⟩ := h
    exact ⟨_, h1, h5.isB, h6⟩
theorem putInt_isB {l : List UInt8} {v : Value} {w : World} (x : Int) (s : Bool) (h : IsB l v w) (hl : l.length ≤ 1000000) (h0 : -9223372036854775808 ≤ x) (h1 : x ≤ 9223372036854775807) :
    Calls Tryz.prog 153 #[v, .int .i64 x, .bool s] w fun e w' => ∃ v, e = .returned v ∧ IsB (l ++ vput (vint x s)) v w' ∧ Below w.heap.size w w' := by
  obtain ⟨A, c, rfl, h2, h3, h4, h5⟩ := h
  exact (putInt_any A _ c x s l w h2 rfl hl h5 h0 h1).mono fun _ _ h => h.isB
theorem putInt_isO {l : List UInt8} {v : Value} {w : World} (x : Int) (s : Bool) (h : IsB l v w) (hl : l.length ≤ 1000000) (h0 : -9223372036854775808 ≤ x) (h1 : x ≤ 9223372036854775807) :
    Calls Tryz.prog 153 #[v, .int .i64 x, .bool s] w (RetOwn w (l ++ vput (vint x s))) := by
  obtain ⟨A, c, rfl, h2, h3, h4, h5⟩ := h
  exact putInt_own A _ c x s l w h2 rfl hl h5 h0 h1
end Go.Proofs.YtblpkmmhmdpkjaaGreatDoor

/- Slices of values of one cell, of whatever kind (numbers, truths, texts): f tells a value's cell. Over any program but for the last lines. -/







namespace Go.Proofs.YtblpkmmhmdpkjaaGreatDoor

open Go.RowKit Go.ChangeShapes Go.WideShapes Go.ChangeAt

/-- The slice v holds l. (IsB is this at bv, IsU at uv.) -/
def IsV {α : Type} (f : α → Value) (l : List α) (v : Value) (w : World) : Prop := ∃ A c, v = .slice A l.length c ∧ (A = none → l.length = 0) ∧ l.length ≤ c ∧ c ≤ maxLen ∧ Lies w A (l.map f)
section

variable {α : Type} {f : α → Value} {l : List α} {v : Value} {w w' : World}
theorem IsV.below (h : IsV f l v w) (hb : Below w.heap.size w w') : IsV f l v w' := by
  obtain ⟨A, c, h1, h2, h3, h4, h5⟩ := h
  exact ⟨A, c, h1, h2, h3, h4, h5.below hb⟩
theorem isV_nil (f : α → Value) (w : World) : IsV f [] (.slice none 0 0) w := ⟨none, 0, rfl, by simp, by simp, by unfold maxLen; omega, Lies.nil⟩
theorem isV_row {g : Nat} {t : TypeId} {m : Nat} (h : Row w g t (l.map f)) (hl : l.length = m) (hm : m ≤ 1000000) : IsV f l (.slice (some ⟨g, 0, none⟩) m m) w := by
  subst hl
  exact ⟨_, _, rfl, by simp, Nat.le_refl _, by unfold maxLen; omega, by simpa using h.lies 0⟩
theorem isV_new (f : α → Value) (w : World) (t : TypeId) (l : List α) (m : Nat) (hl : l.length = m) (hm : m ≤ 1000000) : IsV f l (.slice (some ⟨w.heap.size, 0, none⟩) m m) (w.alloc (.cells (l.map f).toArray t)) := by
  have h : Row (w.alloc (.cells (l.map f).toArray t)) w.heap.size t (l.map f) := heap_alloc_new w _
  exact isV_row h hl hm
theorem isV_own {base : Nat} {e : TypeId} {n : Nat} (h : w.ownsRow base e 1 v n (l.map f)) : IsV f l v w := by
  obtain ⟨B, c, rfl, hnc, hcm, _, hl, hlen⟩ := own_shape h
  rw [List.length_map] at hlen
  subst hlen
  refine ⟨B, c, rfl, ?_, hnc, hcm, hl⟩
  intro hB
  subst hB
  rcases hl with hl | ⟨ad, h, _⟩
  · simpa using hl
  · cases h
theorem IsV.cell (h : IsV f l v w) {k : Nat} (hk : k < l.length) : ∃ ad c, v = .slice (some ad) l.length c ∧ ad.block < w.heap.size ∧ w.cell? (ad.add k) = some (f l[k]) := by
  obtain ⟨A, c, h1, _, _, _, h5⟩ := h
  obtain ⟨ad, rfl, h2, h3⟩ := h5.cell (k := k) (by rw [List.length_map]; exact hk)
  exact ⟨ad, c, h1, h2, by rw [h3, List.getElem_map]⟩
theorem IsV.at {A : Option Addr} {n c : Nat} (h : IsV f l (.slice A n c) w) {k : Nat} (hk : k < l.length) : ∃ ad, A = some ad ∧ ad.block < w.heap.size ∧ w.cell? (ad.add k) = some (f l[k]) := by
  obtain ⟨ad, c', h1, h2, h3⟩ := h.cell hk
  injection h1 with h1 _ _
  exact ⟨ad, h1, h2, h3⟩
theorem IsV.len {A : Option Addr} {n c : Nat} (h : IsV f l (.slice A n c) w) : n = l.length := by
  obtain ⟨A', c', h1, _⟩ := h
  injection h1
/-- The first k of it, by x[:k]. -/
theorem IsV.take {A : Option Addr} {n c : Nat} (h : IsV f l (.slice A n c) w) {k : Nat} (hk : k ≤ n) : IsV f (l.take k) (.slice A k c) w := by
  obtain ⟨A', c', h1, h2, h3, h4, h5⟩ := h
  injection h1 with e1 e2 e3
  subst e1 e2 e3
  have hl : (l.take k).length = k := by rw [List.length_take]; omega
  exact ⟨A, c, by rw [hl], fun h => by have := h2 h; omega, by rw [hl]; omega, h4, by rw [List.map_take]; exact h5.take k⟩
end
/-- What is known of a slice that is written out. -/
theorem IsV.parts {α : Type} {f : α → Value} {l : List α} {w : World} {A : Option Addr} {n c : Nat} (h : IsV f l (.slice A n c) w) : l.length = n ∧ (A = none → n = 0) ∧ n ≤ c ∧ c ≤ maxLen ∧ Lies w A (l.map f) := by
  obtain ⟨A', c', h1, h2, h3, h4, h5⟩ := h
  injection h1 with e1 e2 e3
  subst e1 e2 e3
  exact ⟨rfl, h2, h3, h4, h5⟩
theorem IsV.shape {α : Type} {f : α → Value} {l : List α} {v : Value} {w : World} (h : IsV f l v w) : ∃ A n c, v = .slice A n c := by
  obtain ⟨A', c', h1, _⟩ := h
  exact ⟨_, _, _, h1⟩
theorem isB_iff {l : List UInt8} {v : Value} {w : World} : IsB l v w ↔ IsV bv l v w := Iff.rfl

/-- x[k:] of a slice of values of one cell, as one equation. -/
theorem fromV_named {P : Program} {α : Type} {f : α → Value} {w : World} {t e : TypeId} {bytes : Nat} {z : Value} (E : Elem P t e bytes z) {A : Option Addr} {n c k : Nat} {l : List α} (hk : k ≤ n) (hI : IsV f l (.slice A n c) w) :
    ∃ v, (∀ W, (Instr.sliceAt t (.slice A n c) (some (.int .i64 (k : Int))) none none).run P W = .ok v W) ∧ IsV f (l.drop k) v w := by
  obtain ⟨hxs, hA, hnc, hcm, hl⟩ := hI.parts
  have ht := E.under
  have he : P.elem t = e := by simp [Program.elem, ht]
  refine ⟨.slice (if c = k then A else A.map (·.add k)) (n - k) (c - k), fun W => ?_, if c = k then A else A.map (·.add k), c - k, ?_, ?_, ?_, by omega, ?_⟩
  · rw [run_sliceAt_slice W t _ _ _ _ (by rw [he]; exact ht), run_slice_l W t A n c (by rw [he]; exact ht) .i64 (k : Int) (by omega) (by omega), he, E.size_]
    simp [sliced]
  · rw [List.length_drop, hxs]
  · intro hB
    have : A = none := by
      split at hB
      · exact hB
      · cases A with
        | none => rfl
        | some ad => simp at hB
    have := hA this
    rw [List.length_drop, hxs]
    omega
  · rw [List.length_drop, hxs]; omega
  · rw [List.map_drop]; exact hl.drop (by rw [List.length_map]; omega)

/-- Whole numbers with a sign. -/
def iv (x : Int) : Value := .int .i64 x
def inInt (x : Int) : Prop := -9223372036854775808 ≤ x ∧ x ≤ 9223372036854775807
theorem Tryz.infoI : (Tryz.prog.info? 3).map (fun i => (i.zero, i.size, i.bytes)) = some (some (.int .i64 0), 1, 8) := by kernel_rfl
theorem elemI : Elem Tryz.prog 47 3 8 (.int .i64 0) := by
  obtain ⟨i0, hi, hz0, hz1, hz2⟩ := info_parts Tryz.infoI
  exact ⟨Tryz.underlying47, rfl, i0, hi, hz0, hz1, hz2⟩
end Go.Proofs.YtblpkmmhmdpkjaaGreatDoor

/- A number a few times (layer 7), as plain mathematics. -/







namespace Go.Proofs.YtblpkmmhmdpkjaaGreatDoor

/-- How many bytes a number needs. -/
def ebytes (u : Nat) : Nat := max 1 ((wbits u + 7) / 8)
theorem ebytes_pos (u : Nat) : 1 ≤ ebytes u := Nat.le_max_left _ _
theorem ebytes_8 {u : Nat} (h : u < 2 ^ 64) : ebytes u ≤ 8 := by have := wbits_64 h; unfold ebytes; omega
theorem ebytes_room {u : Nat} (h : u < 2 ^ 64) : u < 256 ^ ebytes u := by
  rw [p256]
  exact Nat.lt_of_lt_of_le (wbits_lt h) (Nat.pow_le_pow_right (by omega) (by unfold ebytes; omega))
/-- A number as it stands; none: it may not be. -/
def eplain (x : Int) (s : Bool) : Option Nat := if s then some (vzig x).toNat else if 0 ≤ x then some x.toNat else none
def emade (u : Nat) (s : Bool) : Option Int := if s then some (vzag (u : Int)) else if u < 9223372036854775808 then some (u : Int) else none
theorem eplain_lt {x : Int} {s : Bool} {u : Nat} (h0 : -9223372036854775808 ≤ x) (h1 : x ≤ 9223372036854775807) (h : eplain x s = some u) : u < 2 ^ 64 := by
  have := vzig_bd h0 h1
  unfold eplain at h
  cases s <;> simp at h
  · omega
  · omega
theorem emade_eplain {x : Int} {s : Bool} {u : Nat} (h0 : -9223372036854775808 ≤ x) (h1 : x ≤ 9223372036854775807) (h : eplain x s = some u) : emade u s = some x := by
  have hb := vzig_bd h0 h1
  unfold eplain at h
  unfold emade
  cases s with
  | true =>
    simp at h
    rw [if_pos rfl, ← h, show (((vzig x).toNat : Nat) : Int) = vzig x by omega, vzag_vzig]
  | false =>
    simp at h
    rw [if_neg (by simp), if_pos (by omega)]
    congr 1
    omega
/-- A repeat of a number as it stands. -/
def elay (u t : Nat) : List UInt8 := UInt8.ofNat (8 * (ebytes u - 1) + (t - 3)) :: be (ebytes u) u
theorem elay_len (u t : Nat) : (elay u t).length = ebytes u + 1 := by simp [elay, be_len]
/-- What Put answers. -/
def eput (x t : Int) (s : Bool) : List UInt8 × Int :=
  if t < 3 ∨ 10 < t then ([], 1) else match eplain x s with | none => ([], 1) | some u => (elay u t.toNat, 0)
/-- What Take answers: the number, the times, the bytes behind, an error. -/
def etake (l : List UInt8) (s : Bool) : Int × Int × List UInt8 × Int :=
  match l with
  | [] => (0, 0, [], 2)
  | b :: r =>
    if 64 ≤ b.toNat then (0, 0, [], 2)
    else if r.length < b.toNat / 8 + 1 then (0, 0, [], 2)
    else if ebytes (bval (r.take (b.toNat / 8 + 1))) ≠ b.toNat / 8 + 1 then (0, 0, [], 2)
    else match emade (bval (r.take (b.toNat / 8 + 1))) s with
      | none => (0, 0, [], 2)
      | some x => (x, ((b.toNat % 8 + 3 : Nat) : Int), r.drop (b.toNat / 8 + 1), 0)
/-- P7.2. -/
theorem etake_back {u t : Nat} {x : Int} {s : Bool} (hu : u < 2 ^ 64) (h3 : 3 ≤ t) (h10 : t ≤ 10) (hx : emade u s = some x) (b : List UInt8) : etake (elay u t ++ b) s = (x, (t : Int), b, 0) := by
  have h1 := ebytes_pos u
  have h8 := ebytes_8 hu
  have hr := ebytes_room hu
  have hc : (UInt8.ofNat (8 * (ebytes u - 1) + (t - 3))).toNat = 8 * (ebytes u - 1) + (t - 3) := by rw [UInt8.toNat_ofNat']; omega
  have hd : (8 * (ebytes u - 1) + (t - 3)) / 8 + 1 = ebytes u := by omega
  have hm : (8 * (ebytes u - 1) + (t - 3)) % 8 + 3 = t := by omega
  have hl := be_len (ebytes u) u
  have ht : (be (ebytes u) u ++ b).take (ebytes u) = be (ebytes u) u := by
    conv => lhs; rw [show ebytes u = (be (ebytes u) u).length from hl.symm]
    rw [hl]
    conv => lhs; arg 1; rw [← hl]
    simp
  have hv : bval (be (ebytes u) u) = u := by rw [bval_be, Nat.mod_eq_of_lt hr]
  have hdr : (be (ebytes u) u ++ b).drop (ebytes u) = b := by
    have := List.drop_left (l₁ := be (ebytes u) u) (l₂ := b)
    rwa [hl] at this
  unfold elay etake
  rw [List.cons_append]
  simp only [hc, hd, hm]
  rw [if_neg (by omega), if_neg (by rw [List.length_append, hl]; omega), ht, hv, if_neg (by simp), hx]
  simp only [hdr]
end Go.Proofs.YtblpkmmhmdpkjaaGreatDoor

/- Contracts of layer 7's reference: Plain, Made, Put. -/







namespace Go.Proofs.YtblpkmmhmdpkjaaGreatDoor

open Go.RowKit

theorem bv_low7 {y : Nat} (h : y < 256) : Value.int .u8 (y : Int) = bv (UInt8.ofNat y) := by unfold bv; congr 1; simp; omega
theorem own_one (w : World) (e : TypeId) (u : Value) {base : Nat} (hb : base ≤ w.heap.size) : (w.alloc (.cells #[u] e)).ownsRow base e 1 (.slice (some ⟨w.heap.size, 0, none⟩) 1 1) 1 [u] :=
  ⟨by simp, .inr ⟨w.heap.size, 1, #[u], rfl, hb, heap_alloc_new w _, Nat.le_refl _, by unfold maxLen; omega, by simp, by simp⟩⟩
theorem eput_times {x t : Int} {s : Bool} (h : t < 3 ∨ 10 < t) : eput x t s = ([], 1) := by unfold eput; rw [if_pos h]
theorem eput_not {x t : Int} {s : Bool} (h : eplain x s = none) : eput x t s = ([], 1) := by unfold eput; split <;> simp [h]
theorem eput_ok {x : Int} {t u : Nat} {s : Bool} (h3 : 3 ≤ t) (h10 : t ≤ 10) (h : eplain x s = some u) : eput x t s = (elay u t, 0) := by
  unfold eput
  rw [if_neg (by omega), h, Int.toNat_natCast]
end Go.Proofs.YtblpkmmhmdpkjaaGreatDoor

/- The contract of layer 7's reference's Take. -/



namespace Go.Proofs.YtblpkmmhmdpkjaaGreatDoor

open Go.RowKit

end Go.Proofs.YtblpkmmhmdpkjaaGreatDoor

/- Values of one cell each in a row of the call's own. Over any program. -/





namespace Go.Proofs.YtblpkmmhmdpkjaaGreatDoor

open Go.RowKit

def OwnV {α : Type} (f : α → Value) (e : TypeId) (w : World) (l : List α) (v : Value) (w' : World) : Prop := ∃ n, w'.ownsRow w.heap.size e 1 v n (l.map f)
section

variable {α : Type} {f : α → Value} {e : TypeId} {w w0 w1 w2 : World} {l : List α} {v : Value}
theorem OwnV.isV (h : OwnV f e w l v w1) : IsV f l v w1 := h.elim fun _ h => isV_own h
theorem OwnV.nil (f : α → Value) (e : TypeId) (w w' : World) : OwnV f e w [] (.slice none 0 0) w' := ⟨0, World.ownsRow_nil _ _ _ _⟩
theorem OwnV.below (h : OwnV f e w l v w1) (hb : Below w1.heap.size w1 w2) : OwnV f e w l v w2 := h.elim fun _ h => ⟨_, own_below h hb⟩
theorem OwnV.base (hb : w0.heap.size ≤ w.heap.size) (h : OwnV f e w l v w1) : OwnV f e w0 l v w1 := h.elim fun _ h => ⟨_, own_base hb h⟩
end

end Go.Proofs.YtblpkmmhmdpkjaaGreatDoor

/- Numbers packed as they are (layer 8), as plain mathematics: heads, numbers as they stand, runs. -/







namespace Go.Proofs.YtblpkmmhmdpkjaaGreatDoor

/-- f of each; none, if it is none of one. -/
def omap {α β : Type} (f : α → Option β) : List α → Option (List β)
  | [] => some []
  | x :: l => match f x with | none => none | some y => match omap f l with | none => none | some ys => some (y :: ys)
section

variable {α β : Type} {f : α → Option β}
theorem omap_snoc (l : List α) (x : α) : omap f (l ++ [x]) = match omap f l with | none => none | some ys => match f x with | none => none | some y => some (ys ++ [y]) := by
  induction l with
  | nil => simp only [List.nil_append, omap]
  | cons z l ih =>
    rw [List.cons_append, omap, omap, ih]
    cases f z with
    | none => rfl
    | some y => cases omap f l with
      | none => rfl
      | some ys => cases f x <;> rfl
theorem omap_none {l : List α} {x : α} (hx : x ∈ l) (h : f x = none) : omap f l = none := by
  induction l with
  | nil => cases hx
  | cons z l ih =>
    rw [omap]
    rcases List.mem_cons.1 hx with rfl | hx
    · rw [h]
    · rw [ih hx]; cases f z <;> rfl
theorem omap_len {l : List α} {ys : List β} (h : omap f l = some ys) : ys.length = l.length := by
  induction l generalizing ys with
  | nil => simp [omap] at h; subst h; rfl
  | cons z l ih =>
    rw [omap] at h
    cases hz : f z with
    | none => rw [hz] at h; cases h
    | some y =>
      rw [hz] at h
      cases hl : omap f l with
      | none => rw [hl] at h; cases h
      | some zs =>
        rw [hl] at h
        injection h with h
        subst h
        rw [List.length_cons, List.length_cons, ih hl]
theorem omap_mem {l : List α} {ys : List β} (h : omap f l = some ys) {y : β} (hy : y ∈ ys) : ∃ x ∈ l, f x = some y := by
  induction l generalizing ys with
  | nil => simp [omap] at h; subst h; cases hy
  | cons z l ih =>
    rw [omap] at h
    cases hz : f z with
    | none => rw [hz] at h; cases h
    | some u =>
      rw [hz] at h
      cases hl : omap f l with
      | none => rw [hl] at h; cases h
      | some zs =>
        rw [hl] at h
        injection h with h
        subst h
        rcases List.mem_cons.1 hy with rfl | hy
        · exact ⟨z, List.mem_cons_self, hz⟩
        · obtain ⟨x, hx, hf⟩ := ih hl hy
          exact ⟨x, List.mem_cons_of_mem _ hx, hf⟩
theorem omap_back {g : β → Option α} {l : List α} {ys : List β} (hg : ∀ x ∈ l, ∀ y, f x = some y → g y = some x) (h : omap f l = some ys) : omap g ys = some l := by
  induction l generalizing ys with
  | nil => simp [omap] at h; subst h; rfl
  | cons z l ih =>
    rw [omap] at h
    cases hz : f z with
    | none => rw [hz] at h; cases h
    | some u =>
      rw [hz] at h
      cases hl : omap f l with
      | none => rw [hl] at h; cases h
      | some zs =>
        rw [hl] at h
        injection h with h
        subst h
        rw [omap, hg z List.mem_cons_self u hz, ih (fun x hx => hg x (List.mem_cons_of_mem _ hx)) hl]
end
/-- Numbers as they stand, and back; with an error's number. -/
def dplain (l : List Int) (s : Bool) : Option (List Nat) := omap (eplain · s) l
def dmade (u : List Nat) (s : Bool) : Option (List Int) := omap (emade · s) u
def dplainE (l : List Int) (s : Bool) : List Nat × Int := match dplain l s with | none => ([], 1) | some u => (u, 0)
theorem dplain_lt {l : List Int} {s : Bool} {u : List Nat} (hl : ∀ x ∈ l, inInt x) (h : dplain l s = some u) : ∀ y ∈ u, y < 2 ^ 64 := by
  intro y hy
  obtain ⟨x, hx, hf⟩ := omap_mem h hy
  exact eplain_lt (hl x hx).1 (hl x hx).2 hf
theorem dplain_len {l : List Int} {s : Bool} {u : List Nat} (h : dplain l s = some u) : u.length = l.length := omap_len h
theorem dmade_dplain {l : List Int} {s : Bool} {u : List Nat} (hl : ∀ x ∈ l, inInt x) (h : dplain l s = some u) : dmade u s = some l :=
  omap_back (fun x hx _ hy => emade_eplain (hl x hx).1 (hl x hx).2 hy) h
/-- A head. -/
def dheadN (k c m : Nat) : List UInt8 := be 2 (16384 * k + 512 * c + (m - 1))
def dhead (k c m : Int) : List UInt8 := if 0 ≤ k ∧ k ≤ 3 ∧ 0 ≤ c ∧ c ≤ 31 ∧ 1 ≤ m ∧ m ≤ 512 then dheadN k.toNat c.toNat m.toNat else []
theorem dhead_in {k c m : Nat} (hk : k ≤ 3) (hc : c ≤ 31) (h1 : 1 ≤ m) (hm : m ≤ 512) : dhead (k : Int) (c : Int) (m : Int) = dheadN k c m := by
  unfold dhead
  rw [if_pos (by omega)]
  simp
theorem dheadN_len (k c m : Nat) : (dheadN k c m).length = 2 := be_len _ _
/-- What a head's number says: the kind, the code, how many. -/
def dlook (l : List UInt8) : Int × Int × Int × List UInt8 × Int :=
  if l.length < 2 then (0, 0, 0, [], 2)
  else (((bval (l.take 2) / 16384 : Nat) : Int), ((bval (l.take 2) / 512 % 32 : Nat) : Int), ((bval (l.take 2) % 512 + 1 : Nat) : Int), l.drop 2, 0)
theorem dheadN_bval {k c m : Nat} (hk : k ≤ 3) (hc : c ≤ 31) (h1 : 1 ≤ m) (hm : m ≤ 512) : bval (dheadN k c m) = 16384 * k + 512 * c + (m - 1) := by
  unfold dheadN
  rw [bval_be, Nat.mod_eq_of_lt (by omega)]
theorem dlook_head {k c m : Nat} (hk : k ≤ 3) (hc : c ≤ 31) (h1 : 1 ≤ m) (hm : m ≤ 512) (b : List UInt8) : dlook (dheadN k c m ++ b) = ((k : Int), (c : Int), (m : Int), b, 0) := by
  have hl := dheadN_len k c m
  have ht : (dheadN k c m ++ b).take 2 = dheadN k c m := by rw [← hl]; simp
  have hd : (dheadN k c m ++ b).drop 2 = b := by rw [← hl]; simp
  unfold dlook
  rw [if_neg (by rw [List.length_append, hl]; omega), ht, hd, dheadN_bval hk hc h1 hm]
  have e1 : (16384 * k + 512 * c + (m - 1)) / 16384 = k := by omega
  have e2 : (16384 * k + 512 * c + (m - 1)) / 512 % 32 = c := by omega
  have e3 : (16384 * k + 512 * c + (m - 1)) % 512 + 1 = m := by omega
  rw [e1, e2, e3]
/-- The closest width of numbers, and its code. -/
def dwide (u : List Nat) : Nat := (wclosest (wmost u : Int)).toNat
theorem dwide_int {u : List Nat} : wclosest (wmost u : Int) = (dwide u : Int) := by unfold dwide; have := (wclosest_bd (wmost u : Int)).1; omega
theorem foldl_top : ∀ (u : List Nat) (n : Nat), n ≤ u.foldl (fun n x => max n x) n ∧ ∀ x ∈ u, x ≤ u.foldl (fun n x => max n x) n
  | [], n => ⟨Nat.le_refl _, fun _ h => by cases h⟩
  | y :: u, n => by
    have h := foldl_top u (max n y)
    refine ⟨Nat.le_trans (Nat.le_max_left _ _) h.1, fun x hx => ?_⟩
    rcases List.mem_cons.1 hx with rfl | hx
    · exact Nat.le_trans (Nat.le_max_right _ _) h.1
    · exact h.2 x hx
theorem wtop_mem {u : List Nat} {x : Nat} (h : x ∈ u) : x ≤ wtop u := (foldl_top u 0).2 x h
theorem dwide_room {u : List Nat} (h : ∀ x ∈ u, x < 2 ^ 64) : 1 ≤ dwide u ∧ dwide u ≤ 64 ∧ (∀ x ∈ u, x < 2 ^ dwide u) := by
  have h1 := wroom ⟨wmost u, by have := wmost_64 h; omega⟩
  have h2 := wclosest_bd (wmost u : Int)
  have h3 := dwide_int (u := u)
  dsimp only at h1
  rw [h3] at h1 h2
  refine ⟨by omega, by omega, fun x hx => ?_⟩
  have h4 : x ≤ wtop u := by
    clear h1 h2 h3 h
    exact wtop_mem hx
  have h5 := (wbits_iff (wtop_lt h) (show dwide u ≤ 64 by omega)).1 (by rw [wtop_bits h]; omega)
  omega
def dcode (u : List Nat) : Nat := (wcode (dwide u : Int)).toNat
/-- The code of the closest width stands for it. -/
theorem wclose_code : ∀ n : Fin 65, 0 ≤ wcode (wclosest (n.val : Int)) ∧ wcode (wclosest (n.val : Int)) ≤ 31 ∧ wof (wcode (wclosest (n.val : Int))) = wclosest (n.val : Int) := by decide +kernel
theorem dcode_int {u : List Nat} (h : ∀ x ∈ u, x < 2 ^ 64) : wcode (dwide u : Int) = (dcode u : Int) ∧ dcode u ≤ 31 ∧ wof (dcode u : Int) = (dwide u : Int) := by
  have h1 := wclose_code ⟨wmost u, by have := wmost_64 h; omega⟩
  dsimp only at h1
  rw [dwide_int] at h1
  have h2 : wcode (dwide u : Int) = (dcode u : Int) := by unfold dcode; omega
  rw [h2] at h1
  exact ⟨h2, by omega, h1.2.2⟩
/-- What Put answers. -/
def dlay (u : List Nat) : List UInt8 := dheadN 1 (dcode u) u.length ++ bpack u (dwide u)
def dputE (l : List Int) (s : Bool) : List UInt8 × Int := match dplain l s with | none => ([], 1) | some u => if l.length < 1 ∨ 512 < l.length then ([], 1) else (dlay u, 0)
/-- What Take answers. -/
def dtakeE (l : List UInt8) (s : Bool) : List Int × List UInt8 × Int :=
  if (dlook l).2.2.2.2 ≠ 0 ∨ (dlook l).1 ≠ 1 then ([], [], 2)
  else match unpacksAny (dlook l).2.2.2.1 (dlook l).2.2.1 (wof (dlook l).2.1) with
    | (u, r, e) => if e ≠ 0 then ([], [], 2) else match dmade u s with | none => ([], [], 2) | some m => (m, r, 0)
theorem dtakeE_ok {l : List UInt8} {c m : Int} {r : List UInt8} {s : Bool} (h : dlook l = (1, c, m, r, 0)) {u : List Nat} {q : List UInt8} (hu : unpacksAny r m (wof c) = (u, q, 0)) {o : List Int} (hm : dmade u s = some o) : dtakeE l s = (o, q, 0) := by
  unfold dtakeE
  rw [h]
  dsimp only
  rw [if_neg (by decide), hu]
  dsimp only
  rw [if_neg (by decide), hm]
theorem dtake_lay {u : List Nat} {l : List Int} {s : Bool} (hu : ∀ x ∈ u, x < 2 ^ 64) (h1 : 1 ≤ u.length) (h2 : u.length ≤ 512) (hm : dmade u s = some l) (b : List UInt8) : dtakeE (dlay u ++ b) s = (l, b, 0) := by
  obtain ⟨hw1, hw2, hw3⟩ := dwide_room hu
  obtain ⟨_, hc2, hc3⟩ := dcode_int hu
  have hd : dlook (dlay u ++ b) = (1, (dcode u : Int), (u.length : Int), bpack u (dwide u) ++ b, 0) := by
    unfold dlay
    rw [List.append_assoc]
    exact dlook_head (k := 1) (by omega) hc2 h1 h2 _
  refine dtakeE_ok hd ?_ hm
  rw [hc3, unpacksAny_in _ _ _ (by omega) hw2]
  exact unpacks_back hw3 b
/-- P8.4. -/
theorem dtake_back {l : List Int} {s : Bool} {u : List Nat} (hl : ∀ x ∈ l, inInt x) (h1 : 1 ≤ l.length) (h2 : l.length ≤ 512) (h : dplain l s = some u) (b : List UInt8) : dtakeE (dlay u ++ b) s = (l, b, 0) :=
  dtake_lay (dplain_lt hl h) (by rw [dplain_len h]; exact h1) (by rw [dplain_len h]; exact h2) (dmade_dplain hl h) b
end Go.Proofs.YtblpkmmhmdpkjaaGreatDoor

/- Contracts of layer 8's reference: Head, Look, Plain, Made, Same. -/









namespace Go.Proofs.YtblpkmmhmdpkjaaGreatDoor

open Go.RowKit

theorem isU_iff {l : List Nat} {v : Value} {w : World} : IsU l v w ↔ IsV uv l v w := Iff.rfl
/-- A row of values and an error that a call answers. -/
def RetV {α : Type} (f : α → Value) (w : World) (p : List α × Int) (e : Ending) (w' : World) : Prop := ∃ u, e = .returned (.tuple #[u, .int .i64 p.2]) ∧ IsV f p.1 u w' ∧ Below w.heap.size w w'
theorem RetV.nil {α : Type} {f : α → Value} {w w' : World} (n : Int) (hb : Below w.heap.size w w') : RetV f w ([], n) (.returned (.tuple #[.slice none 0 0, .int .i64 n])) w' := ⟨_, rfl, isV_nil _ _, hb⟩
theorem omap_take {α β : Type} {f : α → Option β} {l : List α} {k : Nat} {acc : List β} {y : β} (hk : k < l.length) (h : omap f (l.take k) = some acc) (hy : f l[k] = some y) : omap f (l.take (k + 1)) = some (acc ++ [y]) := by
  rw [List.take_succ_eq_append_getElem hk, omap_snoc, h, hy]
theorem dhead_no {k c m : Int} (h : ¬ (0 ≤ k ∧ k ≤ 3 ∧ 0 ≤ c ∧ c ≤ 31 ∧ 1 ≤ m ∧ m ≤ 512)) : dhead k c m = [] := by unfold dhead; rw [if_neg h]
theorem dheadN_two {k c m X h y : Nat} (hX : X = 16384 * k + 512 * c + (m - 1)) (hh : h = X / 256) (hy : y = X % 256) (hb : X < 65536) : (dheadN k c m).map bv = [.int .u8 (h : Int), .int .u8 (y : Int)] := by
  have e : dheadN k c m = [UInt8.ofNat h, UInt8.ofNat y] := by
    unfold dheadN
    rw [← hX]
    symm
    refine eq_be rfl ?_
    have h1 : (UInt8.ofNat h).toNat = h := by rw [UInt8.toNat_ofNat']; omega
    have h2 : (UInt8.ofNat y).toNat = y := by rw [UInt8.toNat_ofNat']; omega
    simp only [bval, List.length_cons, List.length_nil, h1, h2]
    omega
  rw [e]
  have h1 : (UInt8.ofNat h).toNat = h := by rw [UInt8.toNat_ofNat']; omega
  have h2 : (UInt8.ofNat y).toNat = y := by rw [UInt8.toNat_ofNat']; omega
  simp only [List.map_cons, List.map_nil, bv, h1, h2]
/-- Bytes in a row of the call's own. -/
def RetH (w : World) (l : List UInt8) (e : Ending) (w' : World) : Prop := ∃ v, e = .returned v ∧ w'.ownsRow w.heap.size 5 1 v l.length (l.map bv) ∧ Below w.heap.size w w'
theorem own_new (w : World) (e : TypeId) (xs : List Value) (n : Nat) (hn : xs.length = n) (hb : n ≤ 1000000) : (w.alloc (.cells xs.toArray e)).ownsRow w.heap.size e 1 (.slice (some ⟨w.heap.size, 0, none⟩) n n) n xs :=
  ⟨by simpa using hn, .inr ⟨w.heap.size, n, xs.toArray, rfl, Nat.le_refl _, heap_alloc_new w _, Nat.le_refl _, by unfold maxLen; omega, by simp [hn], by subst hn; simp⟩⟩
end Go.Proofs.YtblpkmmhmdpkjaaGreatDoor

/- Contracts of layer 8's reference: Put, Take. -/









namespace Go.Proofs.YtblpkmmhmdpkjaaGreatDoor

open Go.RowKit

theorem dputE_no {l : List Int} {s : Bool} (h : dplain l s = none) : dputE l s = ([], 1) := by unfold dputE; rw [h]
theorem dputE_len {l : List Int} {s : Bool} (h : l.length < 1 ∨ 512 < l.length) : dputE l s = ([], 1) := by
  unfold dputE
  cases dplain l s with
  | none => rfl
  | some u => dsimp only; rw [if_pos h]
theorem dputE_ok {l : List Int} {s : Bool} {u : List Nat} (h : dplain l s = some u) (h1 : 1 ≤ l.length) (h2 : l.length ≤ 512) : dputE l s = (dlay u, 0) := by
  unfold dputE
  rw [h]
  dsimp only
  rw [if_neg (by omega)]
theorem dpacks {u : List Nat} (h : ∀ x ∈ u, x < 2 ^ 64) : packsAny u (dwide u : Int) = (bpack u (dwide u), 0) := by
  obtain ⟨_, h2, h3⟩ := dwide_room h
  rw [packsAny_in _ _ h2, packs_ok h3]
theorem bsize_small {n W : Nat} (hn : n ≤ 512) (hW : W ≤ 64) : bsize n W ≤ 4096 := by
  unfold bsize
  have : n * W ≤ 512 * 64 := Nat.mul_le_mul hn hW
  omega
/-- Numbers, bytes and an error that a call answers. -/
def RetIB (w : World) (p : List Int × List UInt8 × Int) (e : Ending) (w' : World) : Prop := ∃ u v, e = .returned (.tuple #[u, v, .int .i64 p.2.2]) ∧ IsV iv p.1 u w' ∧ IsB p.2.1 v w' ∧ Below w.heap.size w w'
theorem RetIB.nil {w w' : World} (n : Int) (hb : Below w.heap.size w w') : RetIB w ([], [], n) (.returned (.tuple #[.slice none 0 0, .slice none 0 0, .int .i64 n])) w' := ⟨_, _, rfl, isV_nil _ _, isB_nil _, hb⟩
/-- The same, the bytes in a row of the call's own. -/
def RetIO (w : World) (p : List Int × List UInt8 × Int) (e : Ending) (w' : World) : Prop := ∃ u v, e = .returned (.tuple #[u, v, .int .i64 p.2.2]) ∧ IsV iv p.1 u w' ∧ OwnB w p.2.1 v w' ∧ Below w.heap.size w w'
theorem RetIO.nil {w w' : World} (n : Int) (hb : Below w.heap.size w w') : RetIO w ([], [], n) (.returned (.tuple #[.slice none 0 0, .slice none 0 0, .int .i64 n])) w' := ⟨_, _, rfl, isV_nil _ _, OwnB.nil _ _, hb⟩
end Go.Proofs.YtblpkmmhmdpkjaaGreatDoor

/- The table of widths out of what a seat's rows list. (For seats whose rows list widths.table alone.) -/













namespace Go.Proofs.YtblpkmmhmdpkjaaGreatDoor

open Go.RowKit Go.ChangeShapes Go.WideShapes Go.ChangeAt

theorem gTab : Tryz.prog.globalNamed "pilaster/widths.table" = some 1 := by kernel_rfl
theorem tTab : (Tryz.prog.globals[1]?).map (·.type) = some 195 := by kernel_rfl
theorem door_met (os : Os) (args : Array Value) : laidMetH Tryz.prog [("pilaster/widths.table", Rows.laid_pilaster_widths_table)] ((World.doorLaid Tryz.prog 400 os).forCall (fun _ _ => 0) ⟨#[], args, []⟩).memory :=
  laidMetH_of_parts3 (fuel := 8) (laidMet_of_run' 8 (by kernel_rfl) (by kernel_rfl)) (by kernel_rfl) (by kernel_rfl)
theorem tab_of {W : World} (h : laidMetH Tryz.prog [("pilaster/widths.table", Rows.laid_pilaster_widths_table)] W) : WTab W := by
  rw [MakeChecks.laidMetH_plain _ _ _ (by kernel_rfl)] at h
  exact row_of_laid (zs := wtab) gTab tTab Tryz.underlying195 Tryz.underlying3 (by kernel_rfl) (by kernel_rfl) (by omega) h
end Go.Proofs.YtblpkmmhmdpkjaaGreatDoor

/- x & (2^w - 1) of a number with a sign. -/



namespace Go.Proofs.YtblpkmmhmdpkjaaGreatDoor

end Go.Proofs.YtblpkmmhmdpkjaaGreatDoor

/- Operations on numbers in a region that draws: what each yields; slices of one number. Over any program. -/





namespace Go.Proofs.YtblpkmmhmdpkjaaGreatDoor

open Go.RowKit

def Fact.vals {α : Type} (f : α → Value) (l : List α) : Fact := ⟨IsV f l, fun _ _ _ h hb => h.below hb⟩
section

variable {P : Program} {o : Oper} {ρ : Operand → Value} {w : World} {R : Value → World → Prop}
theorem gives_shl64 {t t' : TypeId} {x y : Operand} {a r : Int} {k : Nat} (ho : o.op = .binOp .shl t x y t') (hx : ρ x = .int .u64 a) (hy : ρ y = .int .i64 (k : Int)) (hk : k ≤ 64) (h : IntKind.u64.wrap (a * 2 ^ k) = r) (hR : R (.int .u64 r) w) : Gives P o ρ w R := by
  refine gives_of (v := .int .u64 r) (w' := w) ?_ hR
  simp [execOp, ho, hx, hy, go_sem, h]
theorem gives_conv {s d : TypeId} {k k' : IntKind} {x : Operand} {n r : Int} (ho : o.op = .convert s d x) (hx : ρ x = .int k n) (hs : (P.underlying s).isSome = true) (hd : P.underlying d = some (.int k')) (h : k'.wrap n = r) (hR : R (.int k' r) w) : Gives P o ρ w R := by
  refine gives_convert ho hx (v := .int k' r) (w' := w) ?_ hR
  obtain ⟨e, he⟩ := Option.isSome_iff_exists.mp hs
  simp [convert, run_underlying he, run_underlying hd, Conv.intToInt, h]
end
theorem wpList_slicedL {P : Program} {w : World} {ops : Array Oper} {rest : List Oper} {o : Oper} {a : Act} {Q : Exit → Act → World → Prop} (hgd : o.guard = none) (t : TypeId) (x y : Operand) (ho : o.op = .slice t x (some y) none none)
    (v : Value) (hrun : (Instr.sliceAt t (a.eval x) (some (a.eval y)) none none).run P w = .ok v w) (h : wpList P ops Q rest (a.put o.dst v) w) : wpList P ops Q (o :: rest) a w := by
  refine wpList_plain hgd fun K hK => ?_
  unfold Oper.wp execOp
  simp only [ho, Option.map_some, Option.map_none, hrun, Sem.run_bind, Sem.run_pure, Result.andThen_ok]
  exact hK _ _ h
theorem gives_extract {P : Program} {o : Oper} {ρ : Operand → Value} {w : World} {R : Value → World → Prop} {x : Operand} {i : Nat} {vs : Array Value} {v : Value} (ho : o.op = .extract x i) (hx : ρ x = .tuple vs) (hv : vs[i]? = some v) (hR : R v w) : Gives P o ρ w R := by
  refine gives_of (v := v) (w' := w) ?_ hR
  simp [execOp, ho, hx, hv, go_sem]
end Go.Proofs.YtblpkmmhmdpkjaaGreatDoor

/- direct's own contracts, but Take's and Put's. -/







namespace Go.Proofs.YtblpkmmhmdpkjaaGreatDoor

open Go.RowKit

theorem i64_or_nat (a b : Nat) (ha : a < 2 ^ 63) (hb : b < 2 ^ 63) : bits .or .i64 (a : Int) (b : Int) = ((a ||| b : Nat) : Int) := by
  have h := Nat.or_lt_two_pow ha hb
  show IntKind.i64.wrap ((BitVec.ofInt 64 (a : Int) ||| BitVec.ofInt 64 (b : Int)).toNat : Int) = _
  rw [BitVec.toNat_or, BitVec.ofInt_natCast, BitVec.ofInt_natCast, BitVec.toNat_ofNat, BitVec.toNat_ofNat, Nat.mod_eq_of_lt (by omega), Nat.mod_eq_of_lt (by omega), IntKind.wrap_i64]
  omega
/-- Bits that don't meet are added. -/
theorem or_i64 (n Y P : Nat) (h0 : Y % 2 ^ n = 0) (h1 : P < 2 ^ n) (h2 : Y + P < 2 ^ 63) : bits .or .i64 (Y : Int) (P : Int) = ((Y + P : Nat) : Int) := by
  rw [i64_or_nat _ _ (by omega) (by omega), nat_join n Y P h0 h1]
theorem dcount_yes (n : Int) (w : World) (h0 : 1 ≤ n) (h1 : n ≤ 512) : Calls Tryz.prog 136 #[.int .i64 n] w fun e w' => e = .returned (.bool true) ∧ w = w' := by
  go_enter Tryz.func136, Tryz.ntmps136
  go_wp2
  go_ret
  exact ⟨rfl, rfl⟩
theorem dcount_no (n : Int) (w : World) (h : n < 1 ∨ 512 < n) : Calls Tryz.prog 136 #[.int .i64 n] w fun e w' => e = .returned (.bool false) ∧ w = w' := by
  rcases h with h | h
  · have h2 : decide (1 ≤ n) = false := by simp; omega
    go_enter Tryz.func136, Tryz.ntmps136
    go_wp2
    go_ret
    exact ⟨rfl, rfl⟩
  · have h2 : decide (n ≤ 512) = false := by simp; omega
    have h3 : decide (1 ≤ n) = true := by simp; omega
    go_enter Tryz.func136, Tryz.ntmps136
    go_wp2
    go_ret
    exact ⟨rfl, rfl⟩
theorem wof_fin : ∀ c : Fin 32, 0 < wof (c.val : Int) := by decide +kernel
theorem wof_zero {c : Int} : wof c = 0 ↔ ¬ (0 ≤ c ∧ c ≤ 31) := by
  constructor
  · rintro h ⟨h0, h1⟩
    obtain ⟨k, rfl⟩ := Int.eq_ofNat_of_zero_le h0
    have h2 := wof_fin ⟨k, by omega⟩
    dsimp only at h2
    rw [h] at h2
    exact absurd h2 (by decide)
  · intro h
    exact wof_out (by omega)
set_option maxHeartbeats 2000000 in
set_option maxRecDepth 100000 in
theorem dhead_own (k c m : Int) (w : World) (ht : WTab w) (hk : inInt k) (hc : inInt c) (hm : inInt m) : Calls Tryz.prog 141 #[.int .i64 k, .int .i64 c, .int .i64 m] w (RetH w (dhead k c m)) := by
  have HOF := Lib.hid (of_any c w ht hc.1 hc.2)
  by_cases h0 : k < 0
  · have d0 : decide (k < 0) = true := decide_eq_true h0
    have hE := Lib.hid (dhead_no (k := k) (c := c) (m := m) (by omega))
    clear ht
    go_enter Tryz.func141, Tryz.ntmps141
    go_wp2
    go_ret
    rw [hE.out]
    exact ⟨_, rfl, World.ownsRow_nil _ _ _ _, Below.refl _ _⟩
  · have d0 : decide (k < 0) = false := decide_eq_false h0
    by_cases h1 : 4 ≤ k
    · have d1 : decide (4 ≤ k) = true := decide_eq_true h1
      have hE := Lib.hid (dhead_no (k := k) (c := c) (m := m) (by omega))
      clear ht
      go_enter Tryz.func141, Tryz.ntmps141
      go_wp2
      go_ret
      rw [hE.out]
      exact ⟨_, rfl, World.ownsRow_nil _ _ _ _, Below.refl _ _⟩
    · have d1 : decide (4 ≤ k) = false := decide_eq_false h1
      obtain ⟨W, hW⟩ : ∃ W, W = wof c := ⟨_, rfl⟩
      have hz : W = 0 ↔ ¬ (0 ≤ c ∧ c ≤ 31) := by rw [hW]; exact wof_zero
      rw [← hW] at HOF
      clear hW ht
      by_cases h2 : W = 0
      · have hE := Lib.hid (dhead_no (k := k) (c := c) (m := m) (fun h => (hz.1 h2) ⟨h.2.2.1, h.2.2.2.1⟩))
        have d2 : (W == 0) = true := by simpa using h2
        clear h2 hz
        go_enter Tryz.func141, Tryz.ntmps141
        go_wp2_with (go_at_call 145; refine HOF.out.mono ?_; rintro e w' ⟨rfl, rfl⟩)
        go_ret
        rw [hE.out]
        exact ⟨_, rfl, World.ownsRow_nil _ _ _ _, Below.refl _ _⟩
      · have d2 : (W == 0) = false := by simpa using h2
        have hc2 : 0 ≤ c ∧ c ≤ 31 := Classical.not_not.1 (fun h => h2 (hz.2 h))
        clear h2 hz
        by_cases h3 : m < 1 ∨ 512 < m
        · have hE := Lib.hid (dhead_no (k := k) (c := c) (m := m) (by omega))
          have HC := Lib.hid (dcount_no m w h3)
          clear h3
          go_enter Tryz.func141, Tryz.ntmps141
          go_wp2_with (first | (go_at_call 145; refine HOF.out.mono ?_; rintro e w' ⟨rfl, rfl⟩) | (go_at_call 136; refine HC.out.mono ?_; rintro e w' ⟨rfl, rfl⟩))
          go_ret
          rw [hE.out]
          exact ⟨_, rfl, World.ownsRow_nil _ _ _ _, Below.refl _ _⟩
        · have HC := Lib.hid (dcount_yes m w (by omega) (by omega))
          obtain ⟨K, rfl⟩ := Int.eq_ofNat_of_zero_le (show 0 ≤ k by omega)
          obtain ⟨C, rfl⟩ := Int.eq_ofNat_of_zero_le (show 0 ≤ c by omega)
          obtain ⟨M, rfl⟩ := Int.eq_ofNat_of_zero_le (show 0 ≤ m by omega)
          have hK : K ≤ 3 := by omega
          have hC : C ≤ 31 := by omega
          have hM1 : 1 ≤ M := by omega
          have hM : M ≤ 512 := by omega
          obtain ⟨P, hP⟩ : ∃ P, M = P + 1 := ⟨M - 1, by omega⟩
          have hE := Lib.hid (dhead_in hK hC hM1 hM)
          obtain ⟨a1, ha1⟩ : ∃ a, a = 16384 * K := ⟨_, rfl⟩
          obtain ⟨a2, ha2⟩ : ∃ a, a = 512 * C := ⟨_, rfl⟩
          obtain ⟨Y, hY⟩ : ∃ Y, Y = a1 + a2 := ⟨_, rfl⟩
          obtain ⟨X, hX⟩ : ∃ X, X = Y + P := ⟨_, rfl⟩
          obtain ⟨H, hH⟩ : ∃ H, H = X / 256 := ⟨_, rfl⟩
          obtain ⟨Z, hZ⟩ : ∃ Z, Z = X % 256 := ⟨_, rfl⟩
          have s1 : IntKind.i64.wrap ((K : Int) * 2 ^ 14) = (a1 : Int) := by rw [IntKind.wrap_i64]; omega
          have s1' : (K : Int) * 16384 = (a1 : Int) := by omega
          have s2 : IntKind.i64.wrap ((C : Int) * 2 ^ 9) = (a2 : Int) := by rw [IntKind.wrap_i64]; omega
          have s2' : (C : Int) * 512 = (a2 : Int) := by omega
          have o1 : bits .or .i64 (a1 : Int) (a2 : Int) = (Y : Int) := by rw [hY]; exact or_i64 14 a1 a2 (by omega) (by omega) (by omega)
          have o2 : bits .or .i64 (Y : Int) (P : Int) = (X : Int) := by rw [hX]; exact or_i64 9 Y P (by omega) (by omega) (by omega)
          have hp : ((P + 1 : Nat) : Int) - 1 = (P : Int) := by omega
          have q1 : (X : Int) / 2 ^ 8 = (H : Int) := by omega
          have q1' : (X : Int) / 256 = (H : Int) := by omega
          have w1 : IntKind.u8.wrap (H : Int) = (H : Int) := by rw [IntKind.wrap_u8]; omega
          have w2 : IntKind.u8.wrap (X : Int) = (Z : Int) := by rw [IntKind.wrap_u8]; omega
          have HT := Lib.hid (dheadN_two (k := K) (c := C) (m := M) (X := X) (h := H) (y := Z) (by omega) hH hZ (by omega))
          subst hP
          have hown := own_new w 5 [.int .u8 (H : Int), .int .u8 (Z : Int)] 2 rfl (by omega)
          rw [← HT.out] at hown
          have HOWN := Lib.hid hown
          clear hown ha1 ha2 hY hX hH hZ hc2
          go_enter Tryz.func141, Tryz.ntmps141
          go_wp2_with (first | (go_at_call 145; refine HOF.out.mono ?_; rintro e w' ⟨rfl, rfl⟩) | (go_at_call 136; refine HC.out.mono ?_; rintro e w' ⟨rfl, rfl⟩))
          go_ret
          rw [hE.out]
          refine ⟨_, rfl, ?_, (Below.refl _ _).alloc (Nat.le_refl _) _⟩
          have h := HOWN.out
          rw [HT.out] at h
          rw [dheadN_len, HT.out]
          exact h
/-- Bytes that a call answers. -/
def RetS (w : World) (l : List UInt8) (e : Ending) (w' : World) : Prop := ∃ v, e = .returned v ∧ IsB l v w' ∧ Below w.heap.size w w'
theorem dhead_any (k c m : Int) (w : World) (ht : WTab w) (hk : inInt k) (hc : inInt c) (hm : inInt m) : Calls Tryz.prog 141 #[.int .i64 k, .int .i64 c, .int .i64 m] w (RetS w (dhead k c m)) :=
  (dhead_own k c m w ht hk hc hm).mono fun _ _ ⟨v, h1, h2, h3⟩ => ⟨v, h1, isB_own h2, h3⟩
/-- A row that is filled from the front with what a function makes of others. -/
def FillRel {α β : Type} (f : α → Option β) (enc : β → Value) (z : Value) (t : TypeId) (l : List α) (w : World) (i : Value) (wr : World) : Prop :=
  ∃ (k : Nat) (acc : List β), k ≤ l.length ∧ i = .int .i64 (k : Int) ∧ omap f (l.take k) = some acc ∧ Row wr w.heap.size t (acc.map enc ++ List.replicate (l.length - k) z) ∧ Below w.heap.size w wr
theorem fill_step {β : Type} {enc : β → Value} {z : Value} {acc : List β} {y : β} {n k : Nat} (hk : k < n) (ha : acc.length = k) : (acc.map enc ++ List.replicate (n - k) z).set k (enc y) = (acc ++ [y]).map enc ++ List.replicate (n - (k + 1)) z := by
  have hl : (acc.map enc).length = k := by rw [List.length_map, ha]
  rw [List.set_append_right _ _ (by omega), hl, Nat.sub_self, show n - k = n - (k + 1) + 1 by omega, List.replicate_succ, List.set_cons_zero, List.map_append, List.append_assoc]
  rfl
set_option maxHeartbeats 2000000 in
set_option maxRecDepth 100000 in
theorem dplain_any (l : List Int) (v : Value) (s : Bool) (w : World) (hv : IsV iv l v w) (hl : ∀ x ∈ l, inInt x) (hb : l.length ≤ 1000000) : Calls Tryz.prog 137 #[v, .bool s] w (RetV uv w (dplainE l s)) := by
  obtain ⟨A, c, rfl, hA, hnc, hcm, hlw⟩ := hv
  obtain ⟨n, hn⟩ : ∃ n, n = l.length := ⟨_, rfl⟩
  rw [← hn] at hA hnc hb ⊢
  have HN := Lib.hid hn
  have HL := Lib.hid hlw
  have HI := Lib.hid hl
  clear hn hlw hl hcm hA
  go_enter Tryz.func137, Tryz.ntmps137
  go_wp2_with (refine wpList_make elemU rfl _ _ rfl _ _ _ _ n w w.heap.size rfl rfl rfl rfl (by omega) (by omega) (Below.refl _ _) (Nat.le_refl _) ?_)
  intro w1 hr1 hb1
  have hst : FillRel (eplain · s) uv (uv 0) 101 l w (.int .i64 0) w1 := ⟨0, [], by omega, rfl, rfl, by rw [Nat.sub_zero, ← HN.out]; simpa [iv, uv] using hr1, hb1⟩
  clear hr1 hb1
  go_wp2
  go_loopw [14] (FillRel (eplain · s) uv (uv 0) 101 l w) (fun i _ => n - (intOf i).toNat)
  case atStart => exact hst
  case round =>
    obtain ⟨k, acc, hk, rfl, hacc, hr, hbw⟩ := hrel
    have hz := hbw.size
    have hal : acc.length = k := by rw [omap_len hacc, List.length_take]; omega
    rw [← HN.out] at hr
    have HACC := Lib.hid hacc
    have HAL := Lib.hid hal
    have hk' : k ≤ n := by have := HN.out; omega
    clear hst hacc hal
    by_cases hlt : k < n
    · have hkl : k < l.length := by have := HN.out; omega
      have hlti : (k : Int) < (n : Int) := by omega
      obtain ⟨ad, rfl, _, hcell⟩ := (HL.out.below hbw).cell (k := k) (by rw [List.length_map]; exact hkl)
      obtain ⟨x, hx⟩ : ∃ x, x = l[k] := ⟨_, rfl⟩
      have hcx : wr.cell? (ad.add k) = some (.int .i64 (x)) := by rw [hcell, List.getElem_map, hx]; rfl
      have hxb : inInt x := by rw [hx]; exact HI.out _ (List.getElem_mem hkl)
      have HX := Lib.hid hx
      clear hx hcell
      have hfx := hr.free k
      have hgr := hr.lt
      have hcu : ∃ u, wr.cell? ⟨w.heap.size, k, none⟩ = some u := by
        rw [hr.cell]
        exact ⟨_, List.getElem?_eq_getElem (by rw [List.length_append, List.length_map, List.length_replicate]; have := HAL.out; omega)⟩
      obtain ⟨u0, hcu⟩ := hcu
      cases he : eplain x s with
      | none =>
        have hE : Hid (dplainE l s = ([], 1)) := Lib.hid (by
          have h1 : dplain l s = none := omap_none (x := x) (by rw [HX.out]; exact List.getElem_mem hkl) he
          unfold dplainE; rw [h1])
        cases s with
        | true => unfold eplain at he; rw [if_pos rfl] at he; cases he
        | false =>
          have hx0 : x < 0 := by
            unfold eplain at he
            rw [if_neg (by simp)] at he
            by_cases h : 0 ≤ x
            · rw [if_pos h] at he; cases he
            · omega
          have d3 : decide (x < 0) = true := decide_eq_true hx0
          clear he
          go_wp2
          go_ret2
          rw [hE.out]
          exact RetV.nil _ hbw
      | some u =>
        have hnext : Hid (omap (eplain · s) (l.take (k + 1)) = some (acc ++ [u])) := Lib.hid (omap_take hkl HACC.out (by rw [← HX.out]; exact he))
        have hset := hr.set_ k (uv u)
        rw [fill_step hlt HAL.out] at hset
        have HSET := Lib.hid hset
        have HB3 := Lib.hid (hbw.setCell (p := ⟨w.heap.size, k, none⟩) (Nat.le_refl _) (uv u))
        clear hset hr hbw hz
        cases s with
        | true =>
          have hu : vzig x = (u : Int) := by
            unfold eplain at he
            rw [if_pos rfl] at he
            injection he with he
            have := vzig_bd hxb.1 hxb.2
            omega
          have HZ := Lib.hid (zig_any x wr hxb.1 hxb.2)
          rw [hu] at HZ
          clear he hu
          go_wp2_with (go_at_call 165; refine HZ.out.mono ?_; rintro e w' ⟨rfl, rfl⟩)
          go_roundw
          case rel => exact ⟨k + 1, _, by have := HN.out; omega, by go_num, hnext.out, by rw [← HN.out]; exact HSET.out, HB3.out⟩
          case measure => simp [intOf]; omega
        | false =>
          have hx0 : 0 ≤ x ∧ x = (u : Int) := by
            unfold eplain at he
            rw [if_neg (by simp)] at he
            by_cases h : 0 ≤ x
            · rw [if_pos h] at he; injection he with he; omega
            · rw [if_neg h] at he; cases he
          obtain ⟨h0, hxu⟩ := hx0
          have hxu63 : x ≤ 9223372036854775807 := hxb.2
          have HX2 := HX.out
          subst hxu
          have d3 : decide ((u : Int) < 0) = false := decide_eq_false (by omega)
          have hw : IntKind.u64.wrap (u : Int) = (u : Int) := by rw [IntKind.wrap_u64]; omega
          clear he HX2 hxb hxu63
          go_wp2
          go_roundw
          case rel => exact ⟨k + 1, _, by have := HN.out; omega, by go_num, hnext.out, by rw [← HN.out]; exact HSET.out, HB3.out⟩
          case measure => simp [intOf]; omega
    · obtain rfl : k = n := by omega
      have hlti : ¬ (k : Int) < (k : Int) := by omega
      have hE : Hid (dplainE l s = (acc, 0)) := Lib.hid (by
        have h1 := HACC.out
        rw [List.take_of_length_le (by have := HN.out; omega)] at h1
        unfold dplainE dplain; rw [h1])
      rw [Nat.sub_self, List.replicate_zero, List.append_nil] at hr
      have HR := Lib.hid (isV_row hr HAL.out (by omega))
      go_wp2
      go_ret2
      rw [hE.out]
      exact ⟨_, rfl, HR.out, hbw⟩
end Go.Proofs.YtblpkmmhmdpkjaaGreatDoor

/- direct's Put and Take. -/





namespace Go.Proofs.YtblpkmmhmdpkjaaGreatDoor

open Go.RowKit

theorem most_is {l : List Nat} {v : Value} {w : World} (h : IsV uv l v w) (hb : l.length ≤ 1000000) (h64 : ∀ x ∈ l, x < 2 ^ 64) : Calls Tryz.prog 139 #[v] w fun e w' => e = .returned (.int .i64 (wmost l : Int)) ∧ w = w' := by
  obtain ⟨A, c, rfl, h2, h3, h4, h5⟩ := h
  exact most_any A _ c l w h2 rfl h3 hb h5 h64
set_option maxHeartbeats 2000000 in
set_option maxRecDepth 100000 in
theorem dput_any (l : List Int) (v : Value) (s : Bool) (w : World) (ht : WTab w) (hv : IsV iv l v w) (hl : ∀ x ∈ l, inInt x) (hb : l.length ≤ 1000000) :
    Calls Tryz.prog 124 #[v, .bool s] w (RetE w (dputE l s)) := by
  have HP := Lib.hid (dplain_any l v s w hv hl hb)
  obtain ⟨A, c, rfl, hA, hnc, hcm, hlw⟩ := hv
  obtain ⟨n, hn⟩ : ∃ n, n = l.length := ⟨_, rfl⟩
  rw [← hn] at hA hnc hb HP ⊢
  by_cases hlen : n < 1 ∨ 512 < n
  · have hE := Lib.hid (dputE_len (l := l) (s := s) (by omega))
    have HC := Lib.hid (dcount_no (n : Int) w (by omega))
    clear hn hlw hcm hA hlen ht
    go_enter Tryz.func124, Tryz.ntmps124
    go_wp2_with (go_at_call 136; refine HC.out.mono ?_; rintro e w' ⟨rfl, rfl⟩)
    go_ret2
    rw [hE.out]
    exact RetE.nil _ (Below.refl _ _)
  · have HC := Lib.hid (dcount_yes (n : Int) w (by omega) (by omega))
    cases hd : dplain l s with
    | none =>
      have hE := Lib.hid (dputE_no hd)
      have hpe : dplainE l s = ([], 1) := by unfold dplainE; rw [hd]
      rw [hpe] at HP
      clear hn hlw hcm hA hd hpe ht
      go_enter Tryz.func124, Tryz.ntmps124
      go_wp2_with (first | (go_at_call 136; refine HC.out.mono ?_; rintro e w' ⟨rfl, rfl⟩) | (go_at_call 137; refine HP.out.mono ?_))
      rintro e w1 ⟨u, rfl, hu, hb1⟩
      obtain ⟨A1, c1, rfl, _⟩ := hu
      go_wp2
      go_ret2
      rw [hE.out]
      exact RetE.nil _ hb1
    | some us =>
      have hpe : dplainE l s = (us, 0) := by unfold dplainE; rw [hd]
      rw [hpe] at HP
      have H64 := Lib.hid (dplain_lt hl hd)
      have hul := dplain_len hd
      rw [← hn] at hul
      have hE := Lib.hid (dputE_ok hd (by omega) (by omega))
      have hus : us.length ≤ 512 := by omega
      have HUL := Lib.hid hul
      obtain ⟨W, hW⟩ : ∃ W, W = dwide us := ⟨_, rfl⟩
      obtain ⟨C, hC⟩ : ∃ C, C = dcode us := ⟨_, rfl⟩
      have HW := Lib.hid hW
      have HC2 := Lib.hid hC
      have HCL := Lib.hid (fun X (h : WTab X) => closest_any (wmost us : Int) X h)
      rw [dwide_int, ← hW] at HCL
      have HPK := Lib.hid (fun (u : Value) (X : World) (h : IsV uv us u X) => pack_is (W : Int) (isU_iff.2 h) (by omega) H64.out)
      rw [hW, dpacks H64.out, ← hW] at HPK
      obtain ⟨hci, hc31, _⟩ := dcode_int H64.out
      have HCD := Lib.hid (fun X (h : WTab X) => code_any (W : Int) X h)
      rw [hW, hci, ← hC, ← hW] at HCD
      have HHD := Lib.hid (fun X (h : WTab X) => dhead_own 1 (C : Int) (n : Int) X h (by unfold inInt; omega) (by unfold inInt; omega) (by unfold inInt; omega))
      rw [show (1 : Int) = ((1 : Nat) : Int) from rfl, dhead_in (by omega) (by rw [hC]; exact hc31) (by omega) (by omega), show ((1 : Nat) : Int) = (1 : Int) from rfl] at HHD
      have hsz : (bpack us W).length ≤ 4096 := by rw [bpack_len]; exact bsize_small hus (by rw [hW]; exact (dwide_room H64.out).2.1)
      have HT := Lib.hid ht
      clear hn hlw hcm hA hd hpe hul hW hC hci hc31 hlen ht
      go_enter Tryz.func124, Tryz.ntmps124
      go_wp2_with (first | (go_at_call 136; refine HC.out.mono ?_; rintro e w' ⟨rfl, rfl⟩) | (go_at_call 137; refine HP.out.mono ?_))
      rintro e w1 ⟨u, rfl, hu, hb1⟩
      obtain ⟨A1, c1, rfl, hr⟩ := hu
      have hu : IsV uv us (.slice A1 us.length c1) w1 := ⟨A1, c1, rfl, hr⟩
      have HB1 := Lib.hid hb1
      have HM := Lib.hid (most_is hu (by omega) H64.out)
      have HPK1 := Lib.hid (HPK.out _ w1 hu)
      have HCL1 := Lib.hid (HCL.out w1 (HT.out.below hb1 HT.out.lt))
      clear hb1 hr hu
      go_wp2_with (first | (go_at_call 139; refine HM.out.mono ?_; rintro e w' ⟨rfl, rfl⟩) | (go_at_call 138; refine HCL1.out.mono ?_; rintro e w' ⟨rfl, rfl⟩) | (go_at_call 140; refine HPK1.out.mono ?_))
      rintro e w2 ⟨pk, rfl, hpk, hb2⟩
      obtain ⟨A2, c2, rfl, hA2, hn2, hm2, hl2⟩ := hpk
      have hb02 := below_then HB1.out hb2
      have HB2 := Lib.hid hb02
      have HCD2 := Lib.hid (HCD.out w2 (HT.out.below hb02 HT.out.lt))
      have HHD2 := Lib.hid (HHD.out w2 (HT.out.below hb02 HT.out.lt))
      clear hb2 hb02
      go_wp2_with (first | (go_at_call 142; refine HCD2.out.mono ?_; rintro e w' ⟨rfl, rfl⟩) | (go_at_call 141; refine HHD2.out.mono ?_))
      rintro e w3 ⟨hv3, rfl, hh, hb3⟩
      rw [dheadN_len] at hh
      have hz3 := hb3.size
      have hl3 := hl2.below hb3
      have HB3 := Lib.hid (below_then HB2.out hb3)
      obtain ⟨pl, hpl⟩ : ∃ pl, pl = (bpack us W).length := ⟨_, rfl⟩
      have hpm : ((bpack us W).map bv).length = pl := by rw [List.length_map, hpl]
      have HPM := Lib.hid hpm
      rw [← hpl] at hsz hA2 hn2 ⊢
      have HPL := Lib.hid hpl
      obtain ⟨xs, hxs⟩ : ∃ xs, xs = (dheadN 1 C n).map bv := ⟨_, rfl⟩
      rw [← hxs] at hh
      have HXS := Lib.hid hxs
      clear hpm hpl hxs
      go_wp2_with (at_builtin; refine wpList_join elemB rfl _ _ rfl w2.heap.size _ _ _ _ _ _ ((bpack us W).map bv) w2 rfl rfl hA2 HPM.out hl3 (bv_one _) hh hb3 hz3 (by omega) (by omega) ?_)
      intro v4 w4 hown4 hb4 _ _
      have HO := Lib.hid (show IsB (dlay us) v4 w4 by
        have e1 : dlay us = dheadN 1 C n ++ bpack us W := by unfold dlay; rw [HUL.out, ← HC2.out, ← HW.out]
        rw [e1]
        refine isB_own (n := 2 + pl) (base := w2.heap.size) (e := 5) ?_
        rw [List.map_append, ← HXS.out]
        exact hown4)
      have HB4 := Lib.hid (below_then HB2.out hb4)
      clear hown4 hb4 hh hb3 hz3 hl3
      go_wp2
      go_ret2
      rw [hE.out]
      exact ⟨_, rfl, HO.out, HB4.out⟩
end Go.Proofs.YtblpkmmhmdpkjaaGreatDoor

/- Slices of values of several cells each (structs): f tells a value's cells, m how many. Over any program. -/



namespace Go.Proofs.YtblpkmmhmdpkjaaGreatDoor

open Go.RowKit

theorem flat_at {α : Type} {f : α → List Value} {m : Nat} (hf : ∀ x, (f x).length = m) : ∀ (l : List α) (k : Nat) (hk : k < l.length) (i : Nat), i < m → (l.flatMap f)[k * m + i]? = (f l[k])[i]?
  | [], _, hk, _, _ => absurd hk (Nat.not_lt_zero _)
  | x :: l, 0, _, i, hi => by
    rw [List.flatMap_cons, Nat.zero_mul, Nat.zero_add, List.getElem?_append_left (by rw [hf]; exact hi)]
    rfl
  | x :: l, k + 1, hk, i, hi => by
    rw [List.flatMap_cons, Nat.succ_mul, List.getElem?_append_right (by rw [hf]; omega), hf, show k * m + m + i - m = k * m + i by omega]
    exact flat_at hf l k (by simpa using hk) i hi
theorem flat_take {α : Type} {f : α → List Value} {m : Nat} (hf : ∀ x, (f x).length = m) : ∀ (l : List α) (k : Nat), (l.take k).flatMap f = (l.flatMap f).take (k * m)
  | [], k => by simp
  | x :: l, 0 => by simp
  | x :: l, k + 1 => by
    rw [List.take_succ_cons, List.flatMap_cons, List.flatMap_cons, flat_take hf l k, Nat.succ_mul, List.take_append, hf, show k * m + m - m = k * m by omega, List.take_of_length_le (l := f x) (by rw [hf]; omega)]
theorem flat_len {α : Type} {f : α → List Value} {m : Nat} (hf : ∀ x, (f x).length = m) : ∀ l : List α, (l.flatMap f).length = l.length * m
  | [] => by simp
  | x :: l => by rw [List.flatMap_cons, List.length_append, hf, flat_len hf l, List.length_cons, Nat.succ_mul, Nat.add_comm]
/-- The slice v holds l, each of whose values takes up the cells f. -/
def IsR {α : Type} (f : α → List Value) (l : List α) (v : Value) (w : World) : Prop := ∃ A c, v = .slice A l.length c ∧ (A = none → l.length = 0) ∧ l.length ≤ c ∧ c ≤ maxLen ∧ Lies w A (l.flatMap f)
section

variable {α : Type} {f : α → List Value} {l : List α} {v : Value} {w w' : World} {A : Option Addr} {n c m : Nat}
theorem IsR.below (h : IsR f l v w) (hb : Below w.heap.size w w') : IsR f l v w' := by
  obtain ⟨A, c, h1, h2, h3, h4, h5⟩ := h
  exact ⟨A, c, h1, h2, h3, h4, h5.below hb⟩
theorem IsR.parts (h : IsR f l (.slice A n c) w) : l.length = n ∧ (A = none → n = 0) ∧ n ≤ c ∧ c ≤ maxLen ∧ Lies w A (l.flatMap f) := by
  obtain ⟨A', c', h1, h2, h3, h4, h5⟩ := h
  injection h1 with e1 e2 e3
  subst e1 e2 e3
  exact ⟨rfl, h2, h3, h4, h5⟩
theorem IsR.shape (h : IsR f l v w) : ∃ A n c, v = .slice A n c := by
  obtain ⟨A', c', h1, _⟩ := h
  exact ⟨_, _, _, h1⟩
theorem IsR.at (h : IsR f l (.slice A n c) w) (hf : ∀ x, (f x).length = m) (hm : 0 < m) {k : Nat} (hk : k < l.length) : ∃ ad, A = some ad ∧ ad.block < w.heap.size ∧ ∀ i, i < m → w.cell? (ad.add (k * m + i)) = (f l[k])[i]? := by
  obtain ⟨_, _, _, _, h5⟩ := h.parts
  have hne : l.flatMap f ≠ [] := by
    intro h0
    have h1 := flat_at hf l k hk 0 hm
    rw [h0, List.getElem?_eq_getElem (l := f l[k]) (by rw [hf]; exact hm)] at h1
    cases h1
  rcases h5 with h5 | ⟨ad, hA, hlt, hc⟩
  · exact absurd h5 hne
  · refine ⟨ad, hA, hlt, fun i hi => ?_⟩
    have h1 := flat_at hf l k hk i hi
    rw [List.getElem?_eq_getElem (l := f l[k]) (by rw [hf]; exact hi)] at h1 ⊢
    exact hc _ _ h1
/-- The first k of it, by x[:k]. -/
theorem IsR.take (h : IsR f l (.slice A n c) w) (hf : ∀ x, (f x).length = m) {k : Nat} (hk : k ≤ n) : IsR f (l.take k) (.slice A k c) w := by
  obtain ⟨h1, h2, h3, h4, h5⟩ := h.parts
  have hl : (l.take k).length = k := by rw [List.length_take]; omega
  exact ⟨A, c, by rw [hl], fun h => by have := h2 h; omega, by rw [hl]; omega, h4, by rw [flat_take hf]; exact h5.take _⟩
end

section

variable {P : Program} {o : Oper} {ρ : Operand → Value} {w : World} {R : Value → World → Prop}
/-- x[k] of a slice whose values take up m cells each: the place. -/
theorem gives_index_wide {t e : TypeId} {m : Nat} (ht : P.underlying t = some (.slice e)) (hs : ∀ W, (sizeOf e).run P W = .ok m W) {x y : Operand} {ad : Addr} {n c k : Nat} (ho : o.op = .indexAddr t x y) (hx : ρ x = .slice (some ad) n c) (hy : ρ y = .int .i64 (k : Int)) (hk : k < n)
    (hR : R (.pointer (some (ad.add (k * m)))) w) : Gives P o ρ w R := by
  refine gives_of (v := .pointer (some (ad.add (k * m)))) (w' := w) ?_ hR
  have h0 : (0 : Int) ≤ (k : Int) := by omega
  have h1 : (k : Int) < (n : Int) := by omega
  simp [execOp, ho, hx, hy, go_sem, ht, hs, h0, h1]
/-- A load of a whole value of several cells, from wherever they lie. -/
theorem gives_load_wide {t : TypeId} {x : Operand} {ad : Addr} {cs : List Value} {d : TypeDesc} (ho : o.op = .load t x) (hx : ρ x = .pointer (some ad)) (hu : P.underlying t = some d) (hd : (match (generalizing := false) d with | .struct _ | .array _ _ => true | _ => false) = true)
    (hs : ∀ W, (sizeOf t).run P W = .ok cs.length W) (hc : ∀ j v, cs[j]? = some v → w.cell? (ad.add j) = some v) (hR : R (.agg cs.toArray) w) : Gives P o ρ w R := by
  refine gives_of (v := .agg cs.toArray) (w' := w) ?_ hR
  have ha : (isAgg t).run P w = .ok true w := by
    unfold isAgg
    rw [Sem.run_bind, run_underlying hu]
    cases d <;> first | rfl | cases hd
  have hl : (loadVar t ad).run P w = .ok (.agg cs.toArray) w := by
    simp [loadVar, ha, hs, run_loadCells_list w ad cs hc]
  simp [execOp, ho, hx, Instr.loadAt, Instr.sureAddr, hl]
/-- p.f: the place of a field, where p is known. -/
theorem gives_field {t : TypeId} {x : Operand} {ad ad' : Addr} {f : Nat} (ho : o.op = .fieldAddr t x f) (hx : ρ x = .pointer (some ad)) (hrun : ∀ W, (Instr.fieldAt t (.pointer (some ad)) f).run P W = .ok (.pointer (some ad')) W)
    (hR : R (.pointer (some ad')) w) : Gives P o ρ w R := by
  refine gives_of (v := .pointer (some ad')) (w' := w) ?_ hR
  simp [execOp, ho, hx, hrun]
end

end Go.Proofs.YtblpkmmhmdpkjaaGreatDoor

/- Rows of the call's own whose values take up m cells each: append. Over any program. -/





namespace Go.Proofs.YtblpkmmhmdpkjaaGreatDoor

open Go.RowKit

/-- The facts on an element's type that appends ask: m cells, so many bytes. -/
structure ElemW (P : Program) (t e : TypeId) (bytes m : Nat) (z : Value) : Prop where
  under : P.underlying t = some (.slice e)
  cells : z.cells.size = m
  pos : 0 < m
  info : ∃ (i : TypeInfo), P.info? e = some i ∧ i.zero = some z ∧ i.size = m ∧ i.bytes = bytes
section

variable {P : Program} (w : World)
end
theorem cells_new (w : World) (cs : List Value) (t : TypeId) : Lies (w.alloc (.cells cs.toArray t)) (some ⟨w.heap.size, 0, none⟩) cs := by
  have h : Row (w.alloc (.cells cs.toArray t)) w.heap.size t cs := heap_alloc_new w _
  simpa using h.lies 0
section

variable {α : Type} {f : α → List Value} {l : List α} {v : Value} {w w' : World} {m n : Nat}
theorem isR_nil (f : α → List Value) (w : World) : IsR f [] (.slice none 0 0) w := ⟨none, 0, rfl, by simp, by simp, by unfold maxLen; omega, Lies.nil⟩
theorem ownW_made (w : World) (e : TypeId) (m : Nat) : (w.alloc (.cells #[] e)).ownsRow w.heap.size e m (.slice (some ⟨w.heap.size, 0, none⟩) 0 0) 0 [] :=
  ⟨by simp, .inr ⟨w.heap.size, 0, #[], rfl, Nat.le_refl _, heap_alloc_new w _, Nat.le_refl _, by unfold maxLen; omega, by simp, by simp⟩⟩
end
end Go.Proofs.YtblpkmmhmdpkjaaGreatDoor

/- Arrays by value: a block that is made, loaded and stored whole. Over any program. -/





namespace Go.Proofs.YtblpkmmhmdpkjaaGreatDoor

open Go.RowKit

/-- Cells that are all the same. (A name of its own: the walk's simp writes List.replicate out.) -/
def zeroRow (n : Nat) (z : Value) : List Value := List.replicate n z
/-- The facts on an array type of n elements of one cell. -/
structure ArrT (P : Program) (t e : TypeId) (n : Nat) (z : Value) : Prop where
  under : P.underlying t = some (.array n e)
  info : (P.info? t).map (fun i => (i.zero, i.size)) = some (some (.agg (zeroRow n z).toArray), n)
theorem ArrT.size_ {P : Program} {t e : TypeId} {n : Nat} {z : Value} (E : ArrT P t e n z) : (P.info? t).map (·.size) = some n := (zero_of_info E.info).2

section

variable {P : Program} {w : World} {ops : Array Oper} {rest : List Oper} {o : Oper} {a : Act} {Q : Exit → Act → World → Prop} {t e : TypeId} {n : Nat} {z : Value}
end
end Go.Proofs.YtblpkmmhmdpkjaaGreatDoor
