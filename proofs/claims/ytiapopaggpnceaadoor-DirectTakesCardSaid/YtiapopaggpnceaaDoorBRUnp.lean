
/- The contract of the reference's Unpack. -/

import Derived.Test.YtiapopaggpnceaaDoorBRPack

import Derived.Test.YtiapopaggpnceaaDoorBUnp

namespace Go.Proofs.YtiapopaggpnceaaDoor

open Go.RowKit

def RUnpRel (l : List UInt8) (m M W : Nat) (w : World) (v at_ i : Value) (wr : World) : Prop :=
  ∃ k : Nat, k ≤ M ∧ at_ = .int .i64 ((W * k : Nat) : Int) ∧ i = .int .i64 (k : Int) ∧ wr.ownsRow w.heap.size 52 1 v k ((bnums (bval l) (8 * m) W k).map uv) ∧ Below w.heap.size w wr ∧ w.heap.size ≤ wr.heap.size
def RUnpRel2 (l : List UInt8) (m t W : Nat) (x at_ i : Value) : Prop :=
  ∃ j : Nat, at_ = .int .i64 ((t + j : Nat) : Int) ∧ i = .int .i64 (j : Int) ∧ x = .int .u64 ((btake (bval l) (8 * m) t j : Nat) : Int) ∧ j ≤ W

set_option maxHeartbeats 4000000 in
set_option maxRecDepth 100000 in
theorem runpack_own (A : Option Addr) (n c : Nat) (l : List UInt8) (M W : Nat) (w : World) (hA : A = none → n = 0) (hn : l.length = n) (hnc : n ≤ c) (hcm : c ≤ maxLen) (hnb : n ≤ 1000000) (hM : M ≤ 4096) (hW : W ≤ 64) (hl : Lies w A (l.map bv)) :
    Calls Tryd.prog 40 #[.slice A n c, .int .i64 (M : Int), .int .i64 (W : Int)] w (RetUO w (unpacks l M W)) := by
  have HN := Lib.hid hn
  have HCM := Lib.hid hcm
  clear hn hcm
  obtain ⟨m, hm⟩ : ∃ m, m = bsize M W := ⟨_, rfl⟩
  have hmW : W * M ≤ 8 * m := by rw [hm]; exact bsize_le M W
  have hm4 : m ≤ 32768 := by have := prod_le hM hW; unfold bsize at hm; omega
  have hsz := fun w => rsize_in M W w hM hW
  rw [← hm] at hsz
  have HS := Lib.hid hsz
  have HM := Lib.hid hm
  have HMW := Lib.hid hmW
  clear hsz hm hmW
  have d1 : decide ((M : Int) < 0) = false := decide_eq_false (by omega)
  have d2 : decide ((4096 : Int) < (M : Int)) = false := decide_eq_false (by omega)
  have d3 : decide ((W : Int) < 0) = false := decide_eq_false (by omega)
  have d4 : decide ((64 : Int) < (W : Int)) = false := decide_eq_false (by omega)
  by_cases hsh : n < m
  · have hun : unpacks l M W = ([], [], 2) := by unfold unpacks; rw [if_pos (by rw [HN.out, ← HM.out]; exact hsh)]
    have HU := Lib.hid hun
    clear hun
    go_enter Tryd.func40, Tryd.ntmps40
    go_wp2_with (go_at_call 50; refine (HS.out _).mono ?_; rintro e w' ⟨rfl, rfl⟩)
    go_ret3
    rw [HU.out]
    exact RetUO.nil _ (Below.refl _ _)
  · have hmn : m ≤ n := by omega
    obtain ⟨l', hl'⟩ : ∃ l', l' = l.take m := ⟨_, rfl⟩
    have hl'm : l'.length = m := by rw [hl', List.length_take]; have := HN.out; omega
    have hlies' : Lies w A (l'.map bv) := by rw [hl', List.map_take]; exact hl.take m
    have HL' := Lib.hid hl'
    have HLM := Lib.hid hl'm
    clear hl' hl'm
    have hb0 : Below w.heap.size w (w.alloc (.cells #[] 52)) := (Below.refl _ _).alloc (Nat.le_refl _) _
    have hown0 : (w.alloc (.cells #[] 52)).ownsRow w.heap.size 52 1 (.slice (some ⟨w.heap.size, 0, none⟩) 0 0) 0 [] := World.ownsRow_made w #[] 0 (Nat.le_refl _) (by unfold maxLen; omega) (by simp)
    go_enter Tryd.func40, Tryd.ntmps40
    go_wp2_with (go_at_call 50; refine (HS.out _).mono ?_; rintro e w' ⟨rfl, rfl⟩)
    go_loopw [10, 11, 12] (RUnpRel l' m M W w) (fun _ _ i _ => M - (intOf i).toNat)
    case atStart => exact ⟨0, by omega, rfl, rfl, by simpa [bnums] using hown0, hb0, by simp⟩
    case round =>
      obtain ⟨k, hkM, rfl, rfl, hown, hb, hwz⟩ := hrel
      clear hb0 hown0
      by_cases hlt : k < M
      · have hstep : W * k + W ≤ 8 * m := by
          have h1 : W * (k + 1) ≤ W * M := Nat.mul_le_mul_left _ hlt
          have := HMW.out
          rw [Nat.mul_add, Nat.mul_one] at h1
          omega
        obtain ⟨t, ht⟩ : ∃ t, t = W * k := ⟨_, rfl⟩
        rw [← ht] at hstep ⊢
        have HTT := Lib.hid ht
        clear ht
        go_wp2
        go_loop [13, 11, 14] (RUnpRel2 l' m t W) (fun _ _ i => W - (intOf i).toNat)
        case atStart => exact ⟨0, rfl, rfl, by rw [btake_zero]; rfl, by omega⟩
        case round =>
          obtain ⟨j, rfl, rfl, rfl, hj⟩ := hrel
          obtain ⟨X, hX⟩ : ∃ X, X = btake (bval l') (8 * m) t j := ⟨_, rfl⟩
          rw [← hX]
          by_cases hjW : j < W
          · obtain ⟨T, hT⟩ : ∃ T, T = t + j := ⟨_, rfl⟩
            rw [← hT]
            obtain ⟨q, hq⟩ : ∃ q, q = T / 8 := ⟨_, rfl⟩
            obtain ⟨r, hr⟩ : ∃ r, r = 8 - T % 8 := ⟨_, rfl⟩
            obtain ⟨d, hd⟩ : ∃ d, d = r - 1 := ⟨_, rfl⟩
            have hqi : (T : Int) / 8 = (q : Int) := by omega
            have hdi : 7 - (T : Int) % 8 = (d : Int) := by omega
            have hd8 : d ≤ 7 := by omega
            have hqn : q < n := by omega
            have hqm : (q : Int) < (n : Int) := by omega
            obtain ⟨hql, htb⟩ := btake_at (n := 1) hq hr hd HLM.out (by omega) (by omega) (show T + 1 ≤ 8 * m by omega)
            obtain ⟨ad, rfl, _, hcell⟩ := (hlies'.below hb).cell (k := q) (by simpa using hql)
            obtain ⟨B, hB⟩ : ∃ B, B = l'[q].toNat := ⟨_, rfl⟩
            have hB8 : B < 256 := by have := l'[q].toNat_lt; omega
            have hcB : wr.cell? (ad.add q) = some (.int .u8 (B : Int)) := by rw [hcell, List.getElem_map, hB]; rfl
            rw [← hB] at htb
            obtain ⟨β, hβ⟩ : ∃ β, β = btake (bval l') (8 * m) T 1 := ⟨_, rfl⟩
            rw [← hβ] at htb
            obtain ⟨E, hE⟩ : ∃ E, E = B / 2 ^ d := ⟨_, rfl⟩
            have hEi : (B : Int) / 2 ^ d = (E : Int) := by rw [hE]; simp
            have hE8 : E < 256 := by have := Nat.div_le_self B (2 ^ d); omega
            have hbit : bits .and .u8 (E : Int) 1 = (β : Int) := by
              rw [u8_and _ _ (by omega) (by omega) (by omega) (by omega), ← htb, ← hE, Int.toNat_natCast, show (1 : Int).toNat = 1 from rfl, nat_mask1]
            have hsum : X * 2 ^ 1 + β = btake (bval l') (8 * m) t (j + 1) := by rw [hX, hβ, hT]; exact btake_add (by omega)
            have hlt64 : X * 2 ^ 1 + β < 2 ^ 64 := by
              rw [hsum]
              have h1 := btake_lt (bval l') (8 * m) t (j + 1)
              have h2 : 2 ^ (j + 1) ≤ 2 ^ 64 := Nat.pow_le_pow_right (by omega) (by omega)
              omega
            obtain ⟨Y, hY⟩ : ∃ Y, Y = X * 2 ^ 1 := ⟨_, rfl⟩
            obtain ⟨Z, hZ⟩ : ∃ Z, Z = X * 2 ^ 1 + β := ⟨_, rfl⟩
            have hmu : IntKind.u64.wrap (2 * (X : Int)) = (Y : Int) := by rw [IntKind.wrap_u64]; omega
            have had : IntKind.u64.wrap ((Y : Int) + (β : Int)) = (Z : Int) := by rw [IntKind.wrap_u64]; omega
            rw [← hZ] at hsum
            have hβ1 : (β : Int) ≤ 1 := by omega
            have HSum := Lib.hid hsum
            have HT := Lib.hid hT
            have HB8 := Lib.hid hB8
            clear hq hr hd hE hβ hB hX hY hZ hsum hlt64 htb hcell hT hB8
            go_wp2
            go_round
            case rel => exact ⟨j + 1, by rw [HT.out]; go_num, by go_num, by rw [HSum.out], by omega⟩
            case measure => simp [intOf]; omega
          · obtain rfl : j = W := by omega
            have HX := Lib.hid hX
            clear hX
            go_wp2_with (at_builtin; go_must (refine wpList_push elemU rfl _ _ rfl w.heap.size _ k _ (.int .u64 (X : Int)) wr w rfl rfl rfl rfl hown hb hwz (by omega) (by omega) ?_))
            intro v5 w5 hown5 hb5 _ _
            have hu : Value.int .u64 (X : Int) = uv X := rfl
            have hnew : (bnums (bval l') (8 * m) j k).map uv ++ [Value.int .u64 (X : Int)] = (bnums (bval l') (8 * m) j (k + 1)).map uv := by
              rw [bnums_succ, List.map_append, hu, HX.out, HTT.out]; rfl
            rw [hnew] at hown5
            have hz5 := hb5.size
            clear hu hnew
            go_wp2
            go_roundw
            case rel => exact ⟨k + 1, by omega, by rw [Nat.mul_add, Nat.mul_one, ← HTT.out]; go_num, by go_num, hown5, hb5, hz5⟩
            case measure => simp [intOf]; omega
      · obtain rfl : k = M := by omega
        have hU : IsU (bnums (bval l') (8 * m) W k) _ wr := isU_own hown
        obtain ⟨L, hL⟩ : ∃ L, L = bnums (bval l') (8 * m) W k := ⟨_, rfl⟩
        rw [← hL] at hU
        have hLl : L.length = k := by rw [hL]; exact bnums_len _ _ _ _
        have HOWN := Lib.hid (show wr.ownsRow w.heap.size 52 1 _ L.length (L.map uv) by rw [hL, bnums_len]; exact hown)
        have hLW : ∀ x ∈ L, x < 2 ^ W := by rw [hL]; exact bnums_lt
        have hL64 : ∀ x ∈ L, x < 2 ^ 64 := fun x hx => Nat.lt_of_lt_of_le (hLW x hx) (Nat.pow_le_pow_right (by omega) hW)
        have hpk := bpack_bnums (l := l') (w := W) (n := k) (by rw [HLM.out, ← HM.out])
        rw [← HM.out, ← hL] at hpk
        have hun : unpacks l k W = if bval l' % 2 ^ (8 * m - W * k) = 0 then (L, l.drop m, 0) else ([], [], 2) := by
          unfold unpacks
          rw [← HM.out, if_neg (by rw [HN.out]; omega), ← HL'.out, ← hL]
        have hpc := rpack_is (W : Int) hU (by omega) hL64
        rw [packsAny_in _ _ hW, packs_ok hLW] at hpc
        have HPC := Lib.hid hpc
        have HPK := Lib.hid hpk
        have HUN := Lib.hid hun
        have HU := Lib.hid hU
        clear hL hLl hLW hL64 hpk hun hpc hU hown
        go_wp2_with (go_at_call 37; refine HPC.out.mono ?_; rintro e w5 ⟨v5, rfl, hv5, hb5⟩)
        have hBl : IsB l' (.slice A m c) wr := ⟨A, c, by rw [HLM.out], fun h => by rw [HLM.out]; have := hA h; omega, by rw [HLM.out]; omega, HCM.out, hlies'.below hb⟩
        have HV5 := Lib.hid hv5
        have HBL := Lib.hid (hBl.below hb5)
        have HB5 := Lib.hid hb5
        clear hv5 hBl hb5
        refine wp_region_list [.is v5, .is (.string ⟨(bpack L W).toArray⟩), .is (.slice A n c), .is (.int .i64 (m : Int)), .is (.slice A m c), .is (.string ⟨l'.toArray⟩), .is (.bool !(bpack L W == l'))] [some 75, some 76, some 77, some 78, some 79, some 80, some 81] (by kernel_rfl) (by kernel_rfl) (by kernel_rfl) rfl ⟨?_, ?_, ?_, ?_, ?_, ?_, ?_, trivial⟩ ?_
        · intro ρ W1 hb1 H
          exact gives_move rfl (H.old 15 _ (by kernel_rfl) rfl) ⟨rfl, Below.refl _ _⟩
        · intro ρ W1 hb1 H
          have e : ρ (.tmp 75) = v5 := H.new 75 0 (by kernel_rfl)
          exact gives_convert rfl e ((HV5.out.below hb1).text _ _ _ Tryd.underlying23 Tryd.underlying5 Tryd.underlying9) ⟨rfl, Below.refl _ _⟩
        · intro ρ W1 hb1 H
          exact gives_move rfl (H.old 0 _ (by kernel_rfl) rfl) ⟨rfl, Below.refl _ _⟩
        · intro ρ W1 hb1 H
          exact gives_move rfl (H.old 9 _ (by kernel_rfl) rfl) ⟨rfl, Below.refl _ _⟩
        · intro ρ W1 hb1 H
          exact gives_upto elemB rfl (H.new 77 2 (by kernel_rfl)) (H.new 78 3 (by kernel_rfl)) (show m ≤ c by omega) ⟨rfl, Below.refl _ _⟩
        · intro ρ W1 hb1 H
          have e : ρ (.tmp 79) = .slice A m c := H.new 79 4 (by kernel_rfl)
          exact gives_convert rfl e ((HBL.out.below hb1).text _ _ _ Tryd.underlying23 Tryd.underlying5 Tryd.underlying9) ⟨rfl, Below.refl _ _⟩
        · intro ρ W1 hb1 H
          exact gives_textne rfl (H.new 76 1 (by kernel_rfl)) (H.new 80 5 (by kernel_rfl)) ⟨rfl, Below.refl _ _⟩
        intro vs w6 hb6 hfs
        have f6 : vs 6 = .bool !(bpack L W == l') := hfs 6 (by decide)
        clear hfs
        simp only [putAll, Nat.zero_add, Nat.reduceAdd]
        generalize vs 0 = z0
        generalize vs 1 = z1
        generalize vs 2 = z2
        generalize vs 3 = z3
        generalize vs 4 = z4
        generalize vs 5 = z5
        simp only [f6, Act.put, List.setIfInBounds_toArray, List.set_cons_succ, List.set_cons_zero]
        clear f6
        by_cases hz : bval l' % 2 ^ (8 * m - W * k) = 0
        · have heq : (bpack L W == l') = true := by rw [beq_iff_eq]; exact HPK.out.2 hz
          have hun := HUN.out
          rw [if_pos hz] at hun
          have HU2 := Lib.hid hun
          clear hun hz
          simp only [heq, Bool.not_true]
          clear heq
          have hb7 : Below w6.heap.size w6 (w6.alloc (.cells #[] 5)) := (Below.refl _ _).alloc (Nat.le_refl _) _
          have hown7 : (w6.alloc (.cells #[] 5)).ownsRow w6.heap.size 5 1 (.slice (some ⟨w6.heap.size, 0, none⟩) 0 0) 0 [] := World.ownsRow_made w6 #[] 0 (Nat.le_refl _) (by unfold maxLen; omega) (by simp)
          have hbw6 := below_then (below_then hb HB5.out) hb6
          have hl7 := hl.below (below_then hbw6 hb7)
          have hz7 : w6.heap.size ≤ (w6.alloc (.cells #[] 5)).heap.size := by simp
          have hml : (l.map bv).length = n := by rw [List.length_map]; exact HN.out
          have HML := Lib.hid hml
          clear hml
          go_wp2_with (refine wpList_from elemB rfl _ _ rfl A n c m (l.map bv) rfl rfl hmn hnc HML.out hl7 hA ?_)
          intro B hlB hB
          have hdl : ((l.map bv).drop m).length = n - m := by rw [List.length_drop, HML.out]
          have HDL := Lib.hid hdl
          clear hdl
          go_wp2_with (at_builtin; refine wpList_join elemB rfl _ _ rfl w6.heap.size _ _ _ _ _ _ ((l.map bv).drop m) w6 rfl rfl hB HDL.out hlB (by rw [← List.map_drop]; exact bv_one _) hown7 hb7 hz7 (by omega) (by omega) ?_)
          intro v8 w8 hown8 hb8 _ _
          go_wp2
          go_ret3
          rw [HU2.out]
          refine ⟨_, _, rfl, own_below HOWN.out (below_then (below_then HB5.out hb6) hb8), ?_, below_then hbw6 hb8⟩
          rw [← List.map_drop] at hown8
          exact ⟨_, own_base hbw6.size hown8⟩
        · have heq : (bpack L W == l') = false := by rw [beq_eq_false_iff_ne]; exact fun h => hz (HPK.out.1 h)
          have hun := HUN.out
          rw [if_neg hz] at hun
          have HU2 := Lib.hid hun
          clear hun hz
          simp only [heq, Bool.not_false]
          clear heq
          go_wp2
          go_ret3
          rw [HU2.out]
          exact RetUO.nil _ (below_then (below_then hb HB5.out) hb6)
theorem runpack_out (A : Option Addr) (n c : Nat) (M W : Int) (w : World) (h : ¬ (0 ≤ M ∧ M ≤ 4096 ∧ 0 ≤ W ∧ W ≤ 64)) :
    Calls Tryd.prog 40 #[.slice A n c, .int .i64 M, .int .i64 W] w (RetUO w ([], [], 1)) := by
  rcases (by omega : M < 0 ∨ 4096 < M ∨ ((0 ≤ M ∧ M ≤ 4096) ∧ W < 0) ∨ ((0 ≤ M ∧ M ≤ 4096) ∧ 64 < W)) with h | h | ⟨⟨h1, h2⟩, h⟩ | ⟨⟨h1, h2⟩, h⟩
  · have d1 : decide (M < 0) = true := decide_eq_true (by omega)
    go_enter Tryd.func40, Tryd.ntmps40
    go_wp2
    go_ret3
    exact RetUO.nil _ (Below.refl _ _)
  · have d1 : decide (M < 0) = false := decide_eq_false (by omega)
    have d2 : decide (4096 < M) = true := decide_eq_true (by omega)
    go_enter Tryd.func40, Tryd.ntmps40
    go_wp2
    go_ret3
    exact RetUO.nil _ (Below.refl _ _)
  · have d1 : decide (M < 0) = false := decide_eq_false (by omega)
    have d2 : decide (4096 < M) = false := decide_eq_false (by omega)
    have d3 : decide (W < 0) = true := decide_eq_true (by omega)
    go_enter Tryd.func40, Tryd.ntmps40
    go_wp2
    go_ret3
    exact RetUO.nil _ (Below.refl _ _)
  · have d1 : decide (M < 0) = false := decide_eq_false (by omega)
    have d2 : decide (4096 < M) = false := decide_eq_false (by omega)
    have d3 : decide (W < 0) = false := decide_eq_false (by omega)
    have d4 : decide (64 < W) = true := decide_eq_true (by omega)
    go_enter Tryd.func40, Tryd.ntmps40
    go_wp2
    go_ret3
    exact RetUO.nil _ (Below.refl _ _)
theorem runpack_isO {l : List UInt8} {v : Value} {w : World} (M W : Int) (hl : IsB l v w) (h4 : l.length ≤ 1000000) :
    Calls Tryd.prog 40 #[v, .int .i64 M, .int .i64 W] w (RetUO w (unpacksAny l M W)) := by
  obtain ⟨A, c, rfl, h1, h2, h5, h3⟩ := hl
  by_cases h : 0 ≤ M ∧ M ≤ 4096 ∧ 0 ≤ W ∧ W ≤ 64
  · obtain ⟨K, rfl⟩ := Int.eq_ofNat_of_zero_le (show 0 ≤ M by omega)
    obtain ⟨J, rfl⟩ := Int.eq_ofNat_of_zero_le (show 0 ≤ W by omega)
    rw [unpacksAny_in _ _ _ (by omega) (by omega)]
    exact runpack_own A _ c l K J w h1 rfl h2 h5 h4 (by omega) (by omega) h3
  · unfold unpacksAny
    rw [if_neg h]
    exact runpack_out _ _ _ _ _ _ h
theorem runpack_is {l : List UInt8} {v : Value} {w : World} (M W : Int) (hl : IsB l v w) (h4 : l.length ≤ 1000000) :
    Calls Tryd.prog 40 #[v, .int .i64 M, .int .i64 W] w (RetUE w (unpacksAny l M W)) := (runpack_isO M W hl h4).mono fun _ _ h => h.ue
end Go.Proofs.YtiapopaggpnceaaDoor
