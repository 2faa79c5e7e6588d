
/- The contract of bits.Unpack. -/

import Derived.Test.YtiapopaggpnceaaDoorBTake

namespace Go.Proofs.YtiapopaggpnceaaDoor

open Go.RowKit

def UnpRel (l : List UInt8) (g b a m c M W : Nat) (A : Option Addr) (w : World) (i : Value) (wr : World) : Prop :=
  ∃ k : Nat, i = .int .i64 (k : Int) ∧ k ≤ M ∧ Row wr g 52 ((bnums (bval l) (8 * m) W k).map uv ++ List.replicate (M - k) (uv 0)) ∧ Taker g b a m c (W * k) A l wr ∧ Below w.heap.size w wr
theorem bnums_set (B m W M k : Nat) (hk : k < M) : ((bnums B (8 * m) W k).map uv ++ List.replicate (M - k) (uv 0)).set k (uv (btake B (8 * m) (W * k) W)) = (bnums B (8 * m) W (k + 1)).map uv ++ List.replicate (M - (k + 1)) (uv 0) := by
  have hl : ((bnums B (8 * m) W k).map uv).length = k := by rw [List.length_map, bnums_len]
  rw [List.set_append_right _ _ (by omega), hl, Nat.sub_self, show M - k = M - (k + 1) + 1 by omega, List.replicate_succ, List.set_cons_zero, bnums_succ, List.map_append, List.append_assoc]
  rfl

set_option maxHeartbeats 2000000 in
set_option maxRecDepth 100000 in
theorem unpack_own (A : Option Addr) (n c : Nat) (l : List UInt8) (M W : Nat) (w : World) (hA : A = none → n = 0) (hn : l.length = n) (hnc : n ≤ c) (hnb : n ≤ 1000000) (hM : M ≤ 4096) (hW : W ≤ 64) (hl : Lies w A (l.map bv)) :
    Calls Tryd.prog 39 #[.slice A n c, .int .i64 (M : Int), .int .i64 (W : Int)] w (RetUO w (unpacks l M W)) := by
  have HN := Lib.hid hn
  clear hn
  obtain ⟨m, hm⟩ : ∃ m, m = bsize M W := ⟨_, rfl⟩
  have hmW : W * M ≤ 8 * m := by rw [hm]; exact bsize_le M W
  have hm4 : m ≤ 32768 := by have := prod_le hM hW; unfold bsize at hm; omega
  obtain ⟨p, hp⟩ : ∃ p, p = W * M := ⟨_, rfl⟩
  have hp4 : p ≤ 262144 := by rw [hp, Nat.mul_comm]; exact prod_le hM hW
  obtain ⟨s, hs⟩ : ∃ s, s = 8 * m - p := ⟨_, rfl⟩
  have hs7 : s ≤ 7 := by rw [hs, hp, hm]; exact bsize_spare M W
  have hpm : p + s = 8 * m := by omega
  have hmul : (M : Int) * (W : Int) = (p : Int) := by rw [hp, Nat.mul_comm]; simp
  have hsz := fun w => size_in M W w hM hW
  rw [← hm] at hsz
  have HS := Lib.hid hsz
  have HM := Lib.hid hm
  have HMW := Lib.hid hmW
  have HP := Lib.hid hp
  have HPM := Lib.hid hpm
  clear hsz hm hmW hp hs hpm
  by_cases hsh : n < m
  · have hun : unpacks l M W = ([], [], 2) := by unfold unpacks; rw [if_pos (by rw [HN.out, ← HM.out]; exact hsh)]
    have HU := Lib.hid hun
    clear hun
    go_enter Tryd.func39, Tryd.ntmps39
    go_wp2_with (first | (go_at_call 46; refine (isCount_yes _ _ (by omega) (by omega)).mono ?_; rintro e w' ⟨rfl, rfl⟩) | (go_at_call 45; refine (isWidth_yes _ _ (by omega) (by omega)).mono ?_; rintro e w' ⟨rfl, rfl⟩) | (go_at_call 47; refine (HS.out _).mono ?_; rintro e w' ⟨rfl, rfl⟩))
    go_ret3
    rw [HU.out]
    exact RetUO.nil _ (Below.refl _ _)
  · have hmn : m ≤ n := by omega
    obtain ⟨l', hl'⟩ : ∃ l', l' = l.take m := ⟨_, rfl⟩
    have hl'm : l'.length = m := by rw [hl', List.length_take]; have := HN.out; omega
    have hlies' : Lies w A (l'.map bv) := by rw [hl', List.map_take]; exact hl.take m
    have HL' := Lib.hid hl'
    have HLM := Lib.hid hl'm
    clear hl' hl'm
    go_enter Tryd.func39, Tryd.ntmps39
    go_wp2_with (first | (go_at_call 46; refine (isCount_yes _ _ (by omega) (by omega)).mono ?_; rintro e w' ⟨rfl, rfl⟩) | (go_at_call 45; refine (isWidth_yes _ _ (by omega) (by omega)).mono ?_; rintro e w' ⟨rfl, rfl⟩) | (go_at_call 47; refine (HS.out _).mono ?_; rintro e w' ⟨rfl, rfl⟩) | (refine wpList_make elemU rfl _ _ rfl _ _ _ _ M w w.heap.size rfl rfl ?_ ?_ (by omega) (by omega) (Below.refl _ _) (Nat.le_refl _) ?_))
    · rfl
    · rfl
    intro w1 hr1 hb1
    go_wp2_with fail
    refine (taker_any m c A l' w1 w hlies' hb1 HLM.out).mono ?_
    rintro e w2 ⟨rfl, hP, hb2⟩
    obtain ⟨b, hbz⟩ : ∃ b, b = w1.heap.size := ⟨_, rfl⟩
    have hr2 := hr1.below hb2 hr1.lt
    have hgb : w.heap.size < b := by rw [hbz]; exact hr1.lt
    rw [← hbz] at hP ⊢
    have hbb : Below w.heap.size w w2 := hb1.trans (hb2.mono hb1.size)
    clear hr1 hb1 hb2 hbz
    go_wp2
    go_loopw [37] (UnpRel l' w.heap.size b (b + 1) m c M W A w) (fun i _ => M - (intOf i).toNat)
    case atStart => exact ⟨0, rfl, by omega, by simpa [bnums] using hr2, by rw [Nat.mul_zero]; exact hP, hbb⟩
    case round =>
      obtain ⟨k, rfl, hk, hr, hP, hb⟩ := hrel
      clear hr2 hbb
      by_cases hlt : k < M
      · have hstep : W * k + W ≤ 8 * m := by
          have h1 : W * (k + 1) ≤ W * M := Nat.mul_le_mul_left _ hlt
          have := HMW.out
          rw [Nat.mul_add, Nat.mul_one] at h1
          omega
        go_wp2_with fail
        refine (take1_any _ _ _ m c _ W A l' _ hP hW hstep (by omega)).mono ?_
        rintro e w3 ⟨rfl, hP', hb'⟩
        obtain ⟨Z, hZ⟩ : ∃ Z, Z = btake (bval l') (8 * m) (W * k) W := ⟨_, rfl⟩
        have hr3 := hr.below hb' (by omega)
        have hb3 := hb.trans (hb'.mono (by omega))
        have hf3 := hr3.free k
        have hset := hr3.set_ k (uv Z)
        rw [hZ, bnums_set _ _ _ _ _ hlt] at hset
        rw [← hZ]
        have hc3 : ∃ u, w3.cell? ⟨w.heap.size, k, none⟩ = some u := by
          rw [hr3.cell]
          exact ⟨_, List.getElem?_eq_getElem (by simp [bnums_len]; omega)⟩
        obtain ⟨u, hc3⟩ := hc3
        have hP3 := hP'.far (Nat.le_refl w.heap.size) hgb k (uv Z)
        have hb4 := hb3.setCell (p := ⟨w.heap.size, k, none⟩) (Nat.le_refl _) (uv Z)
        have HSet := Lib.hid hset
        rw [← hZ] at HSet
        clear hset hZ hP hr hb hb' hr3 hb3
        go_wp2
        go_roundw
        case rel => exact ⟨k + 1, by go_num, by omega, HSet.out, by rw [Nat.mul_add, Nat.mul_one]; exact hP3, hb4⟩
        case measure => simp [intOf]; omega
      · obtain rfl : k = M := by omega
        have hsub : (m : Int) * 8 - (p : Int) = (s : Int) := by have := HPM.out; omega
        have hsub2 : IntKind.i64.wrap ((m : Int) * 8 - (p : Int)) = (s : Int) := by rw [hsub, IntKind.wrap_i64]; omega
        have hwp : IntKind.i64.wrap (p : Int) = (p : Int) := by rw [IntKind.wrap_i64]; omega
        rw [← HP.out] at hP
        go_wp2_with fail
        refine (take1_any _ _ _ m c _ s A l' _ hP (by omega) (by have := HPM.out; omega) (by omega)).mono ?_
        rintro e w3 ⟨rfl, hP', hb'⟩
        have hr3 := hr.below hb' (by omega)
        have hb3 := hb.trans (hb'.mono (by omega))
        rw [Nat.sub_self, List.replicate_zero, List.append_nil] at hr3
        obtain ⟨Z, hZ⟩ : ∃ Z, Z = btake (bval l') (8 * m) p s := ⟨_, rfl⟩
        have hZ2 : Z = bval l' % 2 ^ s := by
          have h1 := HPM.out
          rw [hZ, show s = 8 * m - p by omega]
          exact btake_spare (by omega)
        have hun : unpacks l k W = if Z = 0 then (bnums (bval l') (8 * m) W k, l.drop m, 0) else ([], [], 2) := by
          have h1 := HPM.out
          have h2 := HP.out
          unfold unpacks
          rw [← HM.out, if_neg (by rw [HN.out]; omega), ← HL'.out, ← h2, show 8 * m - p = s by omega, ← hZ2]
        rw [← hZ]
        clear hZ hZ2 hsub hsub2 hwp hmul hP' hb' hP hr hb
        by_cases hZ0 : Z = 0
        · subst hZ0
          rw [if_pos rfl] at hun
          have HU := Lib.hid hun
          clear hun
          have hl3 := hl.below hb3
          have hml : (l.map bv).length = n := by rw [List.length_map]; exact HN.out
          have HML := Lib.hid hml
          clear hml
          go_wp2_with (refine wpList_from elemB rfl _ _ rfl A n c m (l.map bv) rfl rfl hmn hnc HML.out hl3 hA ?_)
          intro B hlB hB
          have hdl : ((l.map bv).drop m).length = n - m := by rw [List.length_drop, HML.out]
          have HDL := Lib.hid hdl
          clear hdl
          go_wp2_with (at_builtin; refine wpList_join elemB rfl _ _ rfl w3.heap.size _ _ _ _ _ _ ((l.map bv).drop m) w3 rfl rfl hB HDL.out hlB (by rw [← List.map_drop]; exact bv_one _) (World.ownsRow_nil _ _ _ _) (Below.refl _ _) (Nat.le_refl _) (by omega) (by omega) ?_)
          intro v4 w4 hown4 hb4 _ _
          go_wp2
          go_ret3
          rw [HU.out]
          refine ⟨_, _, rfl, by rw [bnums_len]; exact own_of_row (hr3.below hb4 hr3.lt) (by rw [List.length_map]; exact bnums_len _ _ _ _) (by omega) (by omega), ?_, below_then hb3 hb4⟩
          rw [← List.map_drop] at hown4
          exact ⟨_, own_base hb3.size hown4⟩
        · rw [if_neg hZ0] at hun
          have HU := Lib.hid hun
          have d1 : ((Z : Int) != 0) = true := by simpa using hZ0
          clear hun hZ0
          go_wp2
          go_ret3
          rw [HU.out]
          exact RetUO.nil _ hb3
/-- How many, or a width, that is none. -/
theorem unpack_out (A : Option Addr) (n c : Nat) (M W : Int) (w : World) (h : ¬ (0 ≤ M ∧ M ≤ 4096 ∧ 0 ≤ W ∧ W ≤ 64)) :
    Calls Tryd.prog 39 #[.slice A n c, .int .i64 M, .int .i64 W] w (RetUO w ([], [], 1)) := by
  rcases (by omega : (M < 0 ∨ 4096 < M) ∨ ((0 ≤ M ∧ M ≤ 4096) ∧ (W < 0 ∨ 64 < W))) with h | ⟨h1, h⟩
  · go_enter Tryd.func39, Tryd.ntmps39
    go_wp2_with (go_at_call 46; refine (isCount_no _ _ (by omega)).mono ?_; rintro e w' ⟨rfl, rfl⟩)
    go_ret3
    exact RetUO.nil _ (Below.refl _ _)
  · go_enter Tryd.func39, Tryd.ntmps39
    go_wp2_with (first | (go_at_call 46; refine (isCount_yes _ _ (by omega) (by omega)).mono ?_; rintro e w' ⟨rfl, rfl⟩) | (go_at_call 45; refine (isWidth_no _ _ (by omega)).mono ?_; rintro e w' ⟨rfl, rfl⟩))
    go_ret3
    exact RetUO.nil _ (Below.refl _ _)
/-- What Unpack answers, of any two numbers. -/
def unpacksAny (l : List UInt8) (M W : Int) : List Nat × List UInt8 × Int := if 0 ≤ M ∧ M ≤ 4096 ∧ 0 ≤ W ∧ W ≤ 64 then unpacks l M.toNat W.toNat else ([], [], 1)
theorem unpacksAny_in (l : List UInt8) (M W : Nat) (hM : M ≤ 4096) (hW : W ≤ 64) : unpacksAny l M W = unpacks l M W := by
  unfold unpacksAny
  rw [if_pos (by omega), Int.toNat_natCast, Int.toNat_natCast]
theorem unpacks_back {l : List Nat} {W : Nat} (h : ∀ x ∈ l, x < 2 ^ W) (b : List UInt8) : unpacks (bpack l W ++ b) l.length W = (l, b, 0) := by
  have hlen := bpack_len l W
  have ht : (bpack l W ++ b).take (bsize l.length W) = bpack l W := by rw [← hlen]; simp
  have hd : (bpack l W ++ b).drop (bsize l.length W) = b := by rw [← hlen]; simp
  unfold unpacks
  rw [if_neg (by rw [List.length_append, hlen]; omega), ht, hd, if_pos (bpack_spare h), bnums_bpack h]
theorem unpack_isO {l : List UInt8} {v : Value} {w : World} (M W : Int) (hl : IsB l v w) (h4 : l.length ≤ 1000000) :
    Calls Tryd.prog 39 #[v, .int .i64 M, .int .i64 W] w (RetUO w (unpacksAny l M W)) := by
  obtain ⟨A, c, rfl, h1, h2, _, h3⟩ := hl
  by_cases h : 0 ≤ M ∧ M ≤ 4096 ∧ 0 ≤ W ∧ W ≤ 64
  · obtain ⟨K, rfl⟩ := Int.eq_ofNat_of_zero_le (show 0 ≤ M by omega)
    obtain ⟨J, rfl⟩ := Int.eq_ofNat_of_zero_le (show 0 ≤ W by omega)
    rw [unpacksAny_in _ _ _ (by omega) (by omega)]
    exact unpack_own A _ c l K J w h1 rfl h2 h4 (by omega) (by omega) h3
  · unfold unpacksAny
    rw [if_neg h]
    exact unpack_out _ _ _ _ _ _ h
theorem unpack_is {l : List UInt8} {v : Value} {w : World} (M W : Int) (hl : IsB l v w) (h4 : l.length ≤ 1000000) :
    Calls Tryd.prog 39 #[v, .int .i64 M, .int .i64 W] w (RetUE w (unpacksAny l M W)) := (unpack_isO M W hl h4).mono fun _ _ h => h.ue
end Go.Proofs.YtiapopaggpnceaaDoor
