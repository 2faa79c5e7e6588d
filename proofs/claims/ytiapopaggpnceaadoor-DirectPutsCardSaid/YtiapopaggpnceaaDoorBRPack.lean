
/- The contract of the reference's Pack. -/

import Derived.Test.YtiapopaggpnceaaDoorBTake

namespace Go.Proofs.YtiapopaggpnceaaDoor

open Go.RowKit

def RPackRel2 (g m t W V x : Nat) (w : World) (at_ k : Value) (wr : World) : Prop :=
  ∃ (j : Nat) (out : List UInt8), at_ = .int .i64 ((t + W - j : Nat) : Int) ∧ k = .int .i64 ((j : Int) - 1) ∧ j ≤ W ∧ out.length = m ∧ Row wr g 5 (out.map bv) ∧ bval out = (V * 2 ^ (W - j) + x / 2 ^ j) * 2 ^ (8 * m - (t + W - j)) ∧ Below w.heap.size w wr
def RPackRel (l : List Nat) (g m W : Nat) (w : World) (at_ i : Value) (wr : World) : Prop :=
  ∃ (k : Nat) (out : List UInt8), at_ = .int .i64 ((W * k : Nat) : Int) ∧ i = .int .i64 (k : Int) ∧ k ≤ l.length ∧ out.length = m ∧ Row wr g 5 (out.map bv) ∧ bval out = pval W (l.take k) * 2 ^ (8 * m - W * k) ∧ (∀ x ∈ l.take k, x < 2 ^ W) ∧ Below w.heap.size w wr
theorem bit_is (x K : Nat) (hx : x < 2 ^ 64) : bits .and .u64 ((x : Int) / 2 ^ K) 1 = ((x / 2 ^ K % 2 : Nat) : Int) := by
  have h := and_low x K 1 1 hx (by omega) rfl
  simpa using h
set_option maxHeartbeats 2000000 in
set_option maxRecDepth 100000 in
theorem rpack_own (A : Option Addr) (n c : Nat) (l : List Nat) (W : Nat) (w : World) (hn : l.length = n) (hn4 : n ≤ 4096) (hW : W ≤ 64) (hl : Lies w A (l.map uv)) (h64 : ∀ x ∈ l, x < 2 ^ 64) :
    Calls Tryd.prog 37 #[.slice A n c, .int .i64 (W : Int)] w (RetEO w (packs l W)) := by
  have HN := Lib.hid hn
  have H64 := Lib.hid h64
  clear hn h64
  obtain ⟨m, hm⟩ : ∃ m, m = bsize n W := ⟨_, rfl⟩
  have hmW : W * n ≤ 8 * m := by rw [hm]; exact bsize_le n W
  have hm4 : m ≤ 32768 := by have := prod_le hn4 hW; unfold bsize at hm; omega
  have hsz := fun w => rsize_in n W w hn4 hW
  rw [← hm] at hsz
  have HS := Lib.hid hsz
  have HM := Lib.hid hm
  have HMW := Lib.hid hmW
  clear hsz hm hmW
  have d1 : decide ((W : Int) < 0) = false := decide_eq_false (by omega)
  have d2 : decide ((64 : Int) < (W : Int)) = false := decide_eq_false (by omega)
  have d3 : decide ((4096 : Int) < (n : Int)) = false := decide_eq_false (by omega)
  go_enter Tryd.func37, Tryd.ntmps37
  go_wp2_with (first | (go_at_call 50; refine (HS.out _).mono ?_; rintro e w' ⟨rfl, rfl⟩) | (refine wpList_make elemB rfl _ _ rfl _ _ _ _ m w w.heap.size rfl rfl ?_ ?_ (by omega) (by omega) (Below.refl _ _) (Nat.le_refl _) ?_))
  · rfl
  · rfl
  intro w1 hr1 hb1
  have hr2 : Row w1 w.heap.size 5 ((List.replicate m (0 : UInt8)).map bv) := by simpa using hr1
  clear hr1
  go_wp2
  go_loopw [7, 8] (RPackRel l w.heap.size m W w) (fun _ i _ => n - (intOf i).toNat)
  case atStart => exact ⟨0, List.replicate m 0, rfl, rfl, by omega, by simp, hr2, by rw [bval_zeros]; simp [pval], by simp, hb1⟩
  case round =>
    obtain ⟨k, out, rfl, rfl, hk, hlen, hr, hval, hall, hb⟩ := hrel
    have HV := Lib.hid hval
    have HA := Lib.hid hall
    have HLen := Lib.hid hlen
    clear hval hall hr2 hb1 hlen
    have hk' : k ≤ n := by have := HN.out; omega
    by_cases hlt : k < n
    · have hkl : k < l.length := by have := HN.out; omega
      obtain ⟨ad, rfl, hadlt, hcell⟩ := hl.cell (k := k) (by simpa using hkl)
      obtain ⟨x, hx⟩ : ∃ x : Nat, x = l[k] := ⟨_, rfl⟩
      have hcx0 : w.cell? (ad.add k) = some (.int .u64 (x : Int)) := by rw [hcell, List.getElem_map, hx]; rfl
      have hcx : wr.cell? (ad.add k) = some (.int .u64 (x : Int)) := (hb.cell (by rw [add_block]; exact hadlt)).trans hcx0
      have hxm : x ∈ l := by rw [hx]; exact List.getElem_mem hkl
      have HX := Lib.hid hx
      clear hx hcell
      by_cases hx2 : x < 2 ^ W
      · have hz : (x : Int) / 2 ^ W = 0 := by
          have : ((x / 2 ^ W : Nat) : Int) = 0 := by rw [Nat.div_eq_of_lt hx2]; rfl
          simpa using this
        have hstep : W * k + W ≤ 8 * m := by
          have h1 : W * (k + 1) ≤ W * n := Nat.mul_le_mul_left _ hlt
          have := HMW.out
          rw [Nat.mul_add, Nat.mul_one] at h1
          omega
        have HX2 := Lib.hid hx2
        clear hx2
        obtain ⟨V, hV⟩ : ∃ V, V = pval W (l.take k) := ⟨_, rfl⟩
        obtain ⟨t, ht⟩ : ∃ t, t = W * k := ⟨_, rfl⟩
        rw [← ht] at hstep ⊢
        have HVV := Lib.hid hV
        have HTT := Lib.hid ht
        clear hV ht
        have hst : RPackRel2 w.heap.size m t W V x w (.int .i64 (t : Int)) (.int .i64 ((W : Int) - 1)) wr := by
          refine ⟨W, out, by rw [Nat.add_sub_cancel], rfl, Nat.le_refl _, HLen.out, hr, ?_, hb⟩
          rw [Nat.add_sub_cancel, Nat.sub_self, Nat.pow_zero, Nat.mul_one, Nat.div_eq_of_lt HX2.out, Nat.add_zero, HVV.out, HTT.out]
          exact HV.out
        rcases (show decide ((W : Int) < 64) = true ∨ decide ((W : Int) < 64) = false by cases decide ((W : Int) < 64) <;> simp) with hd64 | hd64
        all_goals
          go_wp2
          go_loopw [7, 9] (RPackRel2 w.heap.size m t W V x w) (fun _ k _ => (intOf k + 1).toNat)
          case atStart => exact hst
          case round =>
            obtain ⟨j, o, rfl, rfl, hj, hlen, hr, hval, hb⟩ := hrel
            obtain ⟨T, hT⟩ : ∃ T, T = t + W - j := ⟨_, rfl⟩
            rw [← hT] at hval ⊢
            have HT := Lib.hid hT
            have HVal := Lib.hid hval
            have HLe := Lib.hid hlen
            clear hT hval hlen
            have hcx2 : wr.cell? (ad.add k) = some (.int .u64 (x : Int)) := (hb.cell (by rw [add_block]; exact hadlt)).trans hcx0
            by_cases hj0 : 0 < j
            · obtain ⟨K, rfl⟩ : ∃ K, j = K + 1 := ⟨j - 1, by omega⟩
              rw [show ((K + 1 : Nat) : Int) - 1 = (K : Int) by omega]
              have hT8 : T + 1 ≤ 8 * m := by have := HT.out; omega
              obtain ⟨β, hβ⟩ : ∃ β, β = x / 2 ^ K % 2 := ⟨_, rfl⟩
              have hbit := bit_is x K (H64.out x hxm)
              rw [← hβ] at hbit
              have HBe := Lib.hid hβ
              rcases (show β = 0 ∨ β = 1 by omega) with rfl | rfl
              · clear hβ
                go_wp2
                go_roundw
                case rel =>
                  have hT2 : T + 1 = t + W - K := by have := HT.out; omega
                  refine ⟨K, o, by rw [← hT2]; go_num, rfl, by omega, HLe.out, hr, ?_, hb⟩
                  have h1 := piece_step V x W (K + 1) 1 hj (by omega)
                  rw [Nat.add_sub_cancel, Nat.pow_one, ← HBe.out] at h1
                  rw [HVal.out, step_zero _ m T hT8, ← hT2, Nat.pow_one, h1]
                case measure => simp [intOf]
              · clear hβ
                go_wp2
                refine wp_region_tail 13 (by kernel_rfl) (by kernel_rfl) ?_
                have hr2 : Row wr.drew w.heap.size 5 (o.map bv) := hr
                have hb2 : Below w.heap.size w wr.drew := hb.drew
                clear hr hb hcx2
                generalize wr.drew = w2 at *
                obtain ⟨q, hq⟩ : ∃ q, q = T / 8 := ⟨_, rfl⟩
                obtain ⟨e, he⟩ : ∃ e, e = T % 8 := ⟨_, rfl⟩
                obtain ⟨r, hr'⟩ : ∃ r, r = 8 - T % 8 := ⟨_, rfl⟩
                obtain ⟨d, hd⟩ : ∃ d, d = r - 1 := ⟨_, rfl⟩
                obtain ⟨hqo, hl1, hl2, hl3, hl4⟩ := laid_at (n := 1) (piece := 1) hq hr' hd HLe.out (by omega) (by omega) hT8 (by omega) HVal.out
                have hqi : (T : Int) / 8 = (q : Int) := by omega
                have hei : (T : Int) % 8 = (e : Int) := by omega
                have hwq : IntKind.i64.wrap (q : Int) = (q : Int) := by rw [IntKind.wrap_i64]; omega
                have htm : (T : Int).tmod 8 = (e : Int) := by rw [Int.tmod_eq_emod_of_nonneg (by omega)]; exact hei
                have hwe : IntKind.i64.wrap (e : Int) = (e : Int) := by rw [IntKind.wrap_i64]; omega
                have hqm : (q : Int) < (m : Int) := by omega
                have he8 : e < 8 := by omega
                obtain ⟨D, hD⟩ : ∃ D, D = 2 ^ d := ⟨_, rfl⟩
                have hsr : (128 : Int) / 2 ^ e = (D : Int) := by rw [shr128 e he8, hD, show 7 - e = d by omega]
                rw [Nat.one_mul, ← hD] at hl2 hl3 hl4
                obtain ⟨B, hB⟩ : ∃ B, B = o[q].toNat := ⟨_, rfl⟩
                have hcB : w2.cell? ⟨w.heap.size, q, none⟩ = some (.int .u8 (B : Int)) := by
                  rw [hr2.cell, List.getElem?_map, List.getElem?_eq_getElem hqo, hB]; rfl
                have hfB := hr2.free q
                rw [← hB] at hl2 hl4
                obtain ⟨C, hC⟩ : ∃ C, C = B + D := ⟨_, rfl⟩
                have hadd : IntKind.u8.wrap ((B : Int) + (D : Int)) = (C : Int) := by rw [IntKind.wrap_u8]; omega
                have hadd2 : ((B : Int) + (D : Int)) % 256 = (C : Int) := by omega
                rw [← hC] at hl2 hl4
                have HL4 := Lib.hid hl4
                have HL2 := Lib.hid hl2
                clear hq he hr' hd hD hB hC hl1 hl2 hl3 hl4
                simp only [List.take_succ_cons, List.take_zero, List.drop_succ_cons, List.drop_zero]
                repeat still_step
                refine wpStill_nil ?_
                go_wp2
                go_roundw
                case rel =>
                  have hT2 : T + 1 = t + W - K := by have := HT.out; omega
                  refine ⟨K, o.set q (UInt8.ofNat C), by rw [← hT2]; go_num, rfl, by omega, by rw [List.length_set]; exact HLe.out, row_set hr2 q C HL2.out, ?_, hb2.setCell (Nat.le_refl _) _⟩
                  have h1 := piece_step V x W (K + 1) 1 hj (by omega)
                  rw [Nat.add_sub_cancel, Nat.pow_one, ← HBe.out] at h1
                  rw [HL4.out, ← hT2, Nat.pow_one, h1]
                case measure => simp [intOf]
            · obtain rfl : j = 0 := by omega
              go_wp2
              go_roundw
              case rel =>
                have hT2 : T = W * (k + 1) := by have := HT.out; rw [Nat.mul_add, Nat.mul_one]; have := HTT.out; omega
                refine ⟨k + 1, o, by rw [hT2], by go_num, by omega, HLe.out, hr, ?_, ?_, hb⟩
                · rw [HVal.out, Nat.sub_zero, Nat.pow_zero, Nat.div_one, List.take_succ_eq_append_getElem hkl, pval_snoc, ← HX.out, ← HVV.out, hT2]
                · intro y hy
                  rw [List.take_succ_eq_append_getElem hkl, List.mem_append] at hy
                  rcases hy with hy | hy
                  · exact HA.out y hy
                  · rw [List.mem_singleton.1 hy, ← HX.out]; exact HX2.out
              case measure => simp [intOf]; omega
      · obtain ⟨y, hy⟩ : ∃ y, y = x / 2 ^ W := ⟨_, rfl⟩
        have hz : (x : Int) / 2 ^ W = (y : Int) := by rw [hy]; simp
        have hy0 : y ≠ 0 := by
          rw [hy]
          intro h
          rcases Nat.div_eq_zero_iff.1 h with h | h
          · have := Nat.two_pow_pos W; omega
          · exact hx2 h
        have hW64 : (W : Int) < 64 := by
          have h1 := H64.out x hxm
          rcases (show W < 64 ∨ W = 64 by omega) with h | h
          · omega
          · rw [h] at hx2; exact absurd h1 hx2
        have e1 : ((y : Int) != 0) = true := by simpa using hy0
        have HNo := Lib.hid (packs_no hxm hx2)
        clear hx2 hy hy0
        go_wp2
        go_ret2
        rw [HNo.out]
        exact RetEO.nil _ hb
    · obtain rfl : k = n := by omega
      have hall : ∀ x ∈ l, x < 2 ^ W := by
        have := HA.out
        rw [List.take_of_length_le (by have := HN.out; omega)] at this
        exact this
      have HAll := Lib.hid hall
      clear hall
      go_wp2
      go_ret2
      rw [packs_ok HAll.out]
      have hv := HV.out
      rw [List.take_of_length_le (by have := HN.out; omega)] at hv
      have hob : out = bpack l W := by
        unfold bpack
        rw [HN.out, ← HM.out]
        exact eq_be HLen.out hv
      exact ⟨_, rfl, by rw [← hob, HLen.out]; exact own_of_row hr (by rw [List.length_map]; exact HLen.out) (Nat.le_refl _) (by omega), hb⟩
theorem rpack_out (A : Option Addr) (n c : Nat) (W : Int) (w : World) (hW : W < 0 ∨ 64 < W) :
    Calls Tryd.prog 37 #[.slice A n c, .int .i64 W] w (RetEO w ([], 1)) := by
  rcases hW with h | h
  · have d1 : decide (W < 0) = true := decide_eq_true (by omega)
    go_enter Tryd.func37, Tryd.ntmps37
    go_wp2
    go_ret2
    exact RetEO.nil _ (Below.refl _ _)
  · have d1 : decide (W < 0) = false := decide_eq_false (by omega)
    have d2 : decide (64 < W) = true := decide_eq_true (by omega)
    go_enter Tryd.func37, Tryd.ntmps37
    go_wp2
    go_ret2
    exact RetEO.nil _ (Below.refl _ _)
theorem rpack_isO {l : List Nat} {v : Value} {w : World} (W : Int) (hl : IsU l v w) (h4 : l.length ≤ 4096) (h64 : ∀ x ∈ l, x < 2 ^ 64) :
    Calls Tryd.prog 37 #[v, .int .i64 W] w (RetEO w (packsAny l W)) := by
  obtain ⟨A, c, rfl, _, _, _, h3⟩ := hl
  by_cases h : W < 0 ∨ 64 < W
  · unfold packsAny
    rw [if_pos h]
    exact rpack_out _ _ _ _ _ h
  · obtain ⟨K, rfl⟩ := Int.eq_ofNat_of_zero_le (show 0 ≤ W by omega)
    rw [packsAny_in _ _ (by omega)]
    exact rpack_own A _ c l K w rfl h4 (by omega) h3 h64
theorem rpack_is {l : List Nat} {v : Value} {w : World} (W : Int) (hl : IsU l v w) (h4 : l.length ≤ 4096) (h64 : ∀ x ∈ l, x < 2 ^ 64) :
    Calls Tryd.prog 37 #[v, .int .i64 W] w (RetE w (packsAny l W)) := (rpack_isO W hl h4 h64).mono fun _ _ h => h.e
end Go.Proofs.YtiapopaggpnceaaDoor
