
/- The contract of layer 5's reference's Take. -/

import Derived.Test.YtffglnccpbbclaaYRef

namespace Go.Proofs.Ytffglnccpbbclaa

open Go.RowKit

/-- Two rows of bytes and an error that a call answers. -/
def RetBB (w : World) (p : List UInt8 × List UInt8 × Int) (e : Ending) (w' : World) : Prop :=
  ∃ u v, e = .returned (.tuple #[u, v, .int .i64 p.2.2]) ∧ IsB p.1 u w' ∧ IsB p.2.1 v w' ∧ Below w.heap.size w w'
theorem RetBB.nil {w w' : World} (n : Int) (hb : Below w.heap.size w w') : RetBB w ([], [], n) (.returned (.tuple #[.slice none 0 0, .slice none 0 0, .int .i64 n])) w' := ⟨_, _, rfl, isB_nil _, isB_nil _, hb⟩
/-- What Take answers. -/
def ytakeE (l : List UInt8) (many : Int) : List UInt8 × List UInt8 × Int :=
  if many < 0 ∨ 4096 < many then ([], [], 1) else match ytake many.toNat l with | some p => (p.1, p.2, 0) | none => ([], [], 2)
theorem ytakeE_arg {l : List UInt8} {many : Int} (h : many < 0 ∨ 4096 < many) : ytakeE l many = ([], [], 1) := by unfold ytakeE; rw [if_pos h]
theorem ytakeE_some {l : List UInt8} {M : Nat} (h : M ≤ 4096) {p q : List UInt8} (hp : ytake M l = some (p, q)) : ytakeE l M = (p, q, 0) := by unfold ytakeE; rw [if_neg (by omega), Int.toNat_natCast, hp]
theorem ytakeE_none {l : List UInt8} {M : Nat} (h : M ≤ 4096) (hp : ytake M l = none) : ytakeE l M = ([], [], 2) := by unfold ytakeE; rw [if_neg (by omega), Int.toNat_natCast, hp]
/-- Some parts are taken: what is still to come. -/
def YLeft (l : List UInt8) (M a : Nat) (m : List UInt8) : Prop :=
  (m.length ≤ M ∧ ytake M l = (ytake (M - m.length) (l.drop a)).map fun p => (m ++ p.1, p.2)) ∨ (M < m.length ∧ ytake M l = none)
theorem YLeft.start (l : List UInt8) (M : Nat) : YLeft l M 0 [] := .inl ⟨by simp, by simp⟩
theorem YLeft.run {l m : List UInt8} {M a c : Nat} (h : YLeft l M a m) (hm : m.length < M) (ha : a + 1 < l.length) (hc : c = l[a].toNat) (h128 : c < 128) : YLeft l M (a + 2) (m ++ List.replicate (c + 3) l[a + 1]) := by
  rcases h with ⟨_, h⟩ | ⟨h, _⟩
  · rw [drop_at (show a < l.length by omega), drop_at ha, ytake_run (by omega) (by omega), ← hc] at h
    by_cases hM : M - m.length < c + 3
    · rw [if_pos hM] at h
      exact .inr ⟨by rw [List.length_append, List.length_replicate]; omega, h⟩
    · rw [if_neg hM] at h
      refine .inl ⟨by rw [List.length_append, List.length_replicate]; omega, ?_⟩
      rw [h, Option.map_map, List.length_append, List.length_replicate, show M - (m.length + (c + 3)) = M - m.length - (c + 3) by omega]
      congr 1
      funext p
      simp
  · omega
theorem YLeft.list {l m : List UInt8} {M a k : Nat} (h : YLeft l M a m) (hm : m.length < M) (ha : a < l.length) (hk : k = 256 - l[a].toNat) (h128 : ¬ l[a].toNat < 128) (hl : k ≤ l.length - (a + 1)) : YLeft l M (a + 1 + k) (m ++ (l.drop (a + 1)).take k) := by
  have hlen : ((l.drop (a + 1)).take k).length = k := by rw [List.length_take, List.length_drop]; omega
  rcases h with ⟨_, h⟩ | ⟨h, _⟩
  · rw [drop_at ha, ytake_list (by omega) h128, ← hk, if_neg (by rw [List.length_drop]; omega)] at h
    by_cases hM : M - m.length < k
    · rw [if_pos hM] at h
      exact .inr ⟨by rw [List.length_append, hlen]; omega, h⟩
    · rw [if_neg hM] at h
      refine .inl ⟨by rw [List.length_append, hlen]; omega, ?_⟩
      rw [h, Option.map_map, List.length_append, hlen, List.drop_drop, show M - (m.length + k) = M - m.length - k by omega]
      congr 1
      funext p
      simp
  · omega
theorem YLeft.short {l m : List UInt8} {M a : Nat} (h : YLeft l M a m) (hm : m.length < M) (ha : l.length - a < 2) : ytake M l = none := by
  rcases h with ⟨_, h⟩ | ⟨h, _⟩
  · rw [h]
    by_cases h1 : a < l.length
    · rw [drop_at h1, List.drop_of_length_le (by omega), ytake_one (by omega)]; rfl
    · rw [List.drop_of_length_le (by omega), ytake_none (by omega)]; rfl
  · omega
theorem YLeft.cut {l m : List UInt8} {M a k : Nat} (h : YLeft l M a m) (hm : m.length < M) (ha : a < l.length) (hk : k = 256 - l[a].toNat) (h128 : ¬ l[a].toNat < 128) (hl : l.length - (a + 1) < k) : ytake M l = none := by
  rcases h with ⟨_, h⟩ | ⟨h, _⟩
  · rw [h, drop_at ha, ytake_list (by omega) h128, ← hk, if_pos (by rw [List.length_drop]; omega)]; rfl
  · omega
theorem YLeft.done {l m : List UInt8} {a : Nat} (h : YLeft l m.length a m) : ytake m.length l = some (m, l.drop a) := by
  rcases h with ⟨_, h⟩ | ⟨h, _⟩
  · rw [h, Nat.sub_self, ytake_zero]; simp
  · omega
theorem YLeft.over {l m : List UInt8} {M a : Nat} (h : YLeft l M a m) (hm : M < m.length) : ytake M l = none := by
  rcases h with ⟨h1, _⟩ | ⟨_, h⟩
  · omega
  · exact h

def RTakeRel5 (l : List UInt8) (M : Nat) (w : World) (v a : Value) (wr : World) : Prop :=
  ∃ (k : Nat) (m : List UInt8), k ≤ l.length ∧ a = .int .i64 (k : Int) ∧ YLeft l M k m ∧ m.length ≤ 4300 ∧ wr.ownsRow w.heap.size 5 1 v m.length (m.map bv) ∧ Below w.heap.size w wr ∧ w.heap.size ≤ wr.heap.size
def RTakeRel6 (m : List UInt8) (x : UInt8) (c : Nat) (w : World) (v i : Value) (wr : World) : Prop :=
  ∃ k : Nat, k ≤ c + 3 ∧ i = .int .i64 (k : Int) ∧ wr.ownsRow w.heap.size 5 1 v (m ++ List.replicate k x).length ((m ++ List.replicate k x).map bv) ∧ Below w.heap.size w wr ∧ w.heap.size ≤ wr.heap.size
set_option maxHeartbeats 4000000 in
set_option maxRecDepth 100000 in
theorem rtake5_any (l : List UInt8) (v : Value) (many : Int) (w : World) (hv : IsB l v w) (hb : l.length ≤ 1000000) :
    Calls Try.prog 42 #[v, .int .i64 many] w (RetBB w (ytakeE l many)) := by
  obtain ⟨A, c, rfl, hA, hnc, hcm, hl⟩ := hv
  obtain ⟨n, hn⟩ : ∃ n, n = l.length := ⟨_, rfl⟩
  rw [← hn] at hA hnc hb ⊢
  have hci : (c : Int) ≤ 9223372036854775807 := by unfold maxLen at hcm; omega
  by_cases h0 : many < 0
  · have hE := Lib.hid (ytakeE_arg (l := l) (Or.inl h0))
    have d1 : decide (many < 0) = true := decide_eq_true h0
    clear hn hl hcm hA hnc
    go_enter Try.func42, Try.ntmps42
    go_wp2
    go_ret3
    rw [hE.out]
    exact RetBB.nil _ (Below.refl _ _)
  · have d1 : decide (many < 0) = false := decide_eq_false h0
    by_cases h4 : 4096 < many
    · have hE := Lib.hid (ytakeE_arg (l := l) (Or.inr h4))
      have d2 : decide ((4096 : Int) < many) = true := decide_eq_true h4
      clear hn hl hcm hA hnc
      go_enter Try.func42, Try.ntmps42
      go_wp2
      go_ret3
      rw [hE.out]
      exact RetBB.nil _ (Below.refl _ _)
    · obtain ⟨M, rfl⟩ := Int.eq_ofNat_of_zero_le (show 0 ≤ many by omega)
      have hM : M ≤ 4096 := by omega
      have d2 : decide ((4096 : Int) < (M : Int)) = false := decide_eq_false (by omega)
      have HP := Lib.hid fun (i k : Nat) (W : World) (hi : i ≤ k) (hk : k ≤ n) (h : Lies W A (l.map bv)) => piece_named (P := Try.prog) elemB hi hk hnc hcm hn.symm h hA
      have HF := Lib.hid fun (k : Nat) (W : World) (hk : k ≤ n) (h : Lies W A (l.map bv)) => from_named (P := Try.prog) elemB hk hnc hcm hn.symm h hA
      have HLi := Lib.hid hl
      have HN := Lib.hid hn
      have hown0 : (w.alloc (.cells #[] 5)).ownsRow w.heap.size 5 1 (.slice (some ⟨w.heap.size, 0, none⟩) 0 0) 0 [] := World.ownsRow_made w #[] 0 (Nat.le_refl _) (by unfold maxLen; omega) (by simp)
      have hst : RTakeRel5 l M w (.slice (some ⟨w.heap.size, 0, none⟩) 0 0) (.int .i64 0) (w.alloc (.cells #[] 5)) := ⟨0, [], by omega, rfl, YLeft.start l M, by simp, by simpa using hown0, (Below.refl _ _).alloc (Nat.le_refl _) _, by simp⟩
      clear hn hl hcm hA hown0
      go_enter Try.func42, Try.ntmps42
      go_wp2
      go_loopw [7, 8] (RTakeRel5 l M w) (fun _ a _ => n - (intOf a).toNat)
      case atStart => exact hst
      case round =>
        obtain ⟨a, m, han, rfl, hm, hml, hown, hbw, hzw⟩ := hrel
        have HM := Lib.hid hm
        clear hst hm
        have ha' : a ≤ n := by have := HN.out; omega
        obtain ⟨L, hL⟩ : ∃ L, L = m.length := ⟨_, rfl⟩
        obtain ⟨B, cb, hvB, hLc, hcb, _, hlm, _⟩ := own_shape hown
        rw [← hL] at hvB hml hown hLc
        have hcbi : (cb : Int) ≤ 9223372036854775807 := by unfold maxLen at hcb; omega
        have HL := Lib.hid hL
        subst hvB
        clear hcb hL hlm
        by_cases hlt : L < M
        · have hlti : (L : Int) < (M : Int) := by omega
          have hmM : m.length < M := by have := HL.out; omega
          by_cases h2 : n - a < 2
          · have h2i : (n : Int) - (a : Int) < 2 := by omega
            have hE := Lib.hid (ytakeE_none hM (HM.out.short hmM (by have := HN.out; omega)))
            go_wp2
            go_ret3
            rw [hE.out]
            exact RetBB.nil _ hbw
          · have h2i : ¬ (n : Int) - (a : Int) < 2 := by omega
            have hal : a + 1 < l.length := by have := HN.out; omega
            obtain ⟨cc, hcc⟩ : ∃ cc : Nat, cc = l[a].toNat := ⟨_, rfl⟩
            have hc8 : cc < 256 := by rw [hcc]; exact UInt8.toNat_lt _
            obtain ⟨ad, hAd, _, hcell⟩ := (HLi.out.below hbw).cell (k := a) (by rw [List.length_map]; omega)
            obtain ⟨_, hAd2, _, hcell2⟩ := (HLi.out.below hbw).cell (k := a + 1) (by rw [List.length_map]; exact hal)
            subst hAd
            injection hAd2 with hAd2
            subst hAd2
            have hcx : wr.cell? (ad.add a) = some (.int .u8 (cc : Int)) := by rw [hcell, List.getElem_map, hcc]; rfl
            have HCC := Lib.hid hcc
            clear hcell hcc
            by_cases h128 : cc < 128
            · have h128i : (cc : Int) < 128 := by omega
              obtain ⟨y, hy⟩ : ∃ y : Nat, y = l[a + 1].toNat := ⟨_, rfl⟩
              have hadw : ad.block < w.heap.size ∧ w.cell? (ad.add (a + 1)) = some (.int .u8 (y : Int)) := by
                obtain ⟨_, hAd3, h1, h2⟩ := HLi.out.cell (k := a + 1) (by rw [List.length_map]; exact hal)
                injection hAd3 with hAd3
                subst hAd3
                exact ⟨h1, by rw [h2, List.getElem_map, hy]; rfl⟩
              have HAD := Lib.hid hadw
              have HY := Lib.hid hy
              have hst2 : RTakeRel6 m l[a + 1] cc w (.slice B L cb) (.int .i64 0) wr := ⟨0, by omega, rfl, by simpa [← HL.out] using hown, hbw, hzw⟩
              have HST := Lib.hid hst2
              clear hadw hy hcell2 hst2 hown
              go_wp2
              go_loopw [7, 10] (RTakeRel6 m l[a + 1] cc w) (fun _ i _ => cc + 3 - (intOf i).toNat)
              case atStart => exact HST.out
              case round =>
                obtain ⟨k, hk, rfl, hown, hbk, hzk⟩ := hrel
                have hmk : (m ++ List.replicate k l[a + 1]).length = L + k := by rw [List.length_append, List.length_replicate, ← HL.out]
                rw [hmk] at hown
                by_cases hlk : k < cc + 3
                · have hlki : (k : Int) < (cc : Int) + 3 := by omega
                  have hcy : wr.cell? ⟨ad.block, ad.off + (a + 1), none⟩ = some (.int .u8 (y : Int)) := by
                    have h1 := (hbk.cell (by rw [add_block]; exact HAD.out.1)).trans HAD.out.2
                    simpa [Addr.add] using h1
                  have hi1 : (a : Int) + 1 < (n : Int) := by omega
                  clear hmk hbw hzw
                  go_wp2_with (at_builtin; refine wpList_push elemB rfl _ _ rfl w.heap.size _ _ _ (.int .u8 (y : Int)) wr w rfl rfl rfl rfl hown hbk hzk (by omega) (by omega) ?_)
                  intro v5 w5 hown5 hb5 _ _
                  have hown6 : w5.ownsRow w.heap.size 5 1 v5 (m ++ List.replicate (k + 1) l[a + 1]).length ((m ++ List.replicate (k + 1) l[a + 1]).map bv) := by
                    have e1 : (m ++ List.replicate (k + 1) l[a + 1]).length = L + k + 1 := by rw [List.length_append, List.length_replicate, ← HL.out]; omega
                    have e2 : Value.int .u8 (y : Int) = bv l[a + 1] := by unfold bv; rw [HY.out]
                    rw [e1, List.replicate_succ', ← List.append_assoc, List.map_append, List.map_singleton, ← e2, List.map_append, List.map_replicate, List.append_assoc]
                    exact hown5
                  clear hown5 hown
                  go_wp2
                  go_roundw
                  case rel => exact ⟨k + 1, by omega, by go_num, hown6, hb5, hb5.size⟩
                  case measure => simp [intOf]; omega
                · obtain rfl : k = cc + 3 := by omega
                  have hlki : ¬ ((cc + 3 : Nat) : Int) < (cc : Int) + 3 := by omega
                  have hrun := Lib.hid (HM.out.run hmM hal HCC.out h128)
                  rw [← hmk] at hown
                  have hlen : (m ++ List.replicate (cc + 3) l[a + 1]).length ≤ 4300 := by rw [hmk]; omega
                  have HLen := Lib.hid hlen
                  clear hmk hlen hbw hzw
                  go_wp2
                  go_roundw
                  case rel => exact ⟨a + 2, _, by omega, by go_num, hrun.out, HLen.out, hown, hbk, hzk⟩
                  case measure => simp [intOf]; omega
            · have h128i : ¬ (cc : Int) < 128 := by omega
              obtain ⟨k, hk⟩ : ∃ k, k = 256 - cc := ⟨_, rfl⟩
              have hki : (256 : Int) - (cc : Int) = (k : Int) := by omega
              have hk8 : k ≤ 128 := by omega
              by_cases hcut : n - (a + 1) < k
              · have hci2 : (n : Int) - (a : Int) - 1 < (k : Int) := by omega
                have hE := Lib.hid (ytakeE_none hM (HM.out.cut (k := k) hmM (by omega) (by rw [← HCC.out]; exact hk) (by rw [← HCC.out]; exact h128) (by have := HN.out; omega)))
                clear hk
                go_wp2
                go_ret3
                rw [hE.out]
                exact RetBB.nil _ hbw
              · have hci2 : ¬ (n : Int) - (a : Int) - 1 < (k : Int) := by omega
                have hlist := Lib.hid (HM.out.list (k := k) hmM (by omega) (by rw [← HCC.out]; exact hk) (by rw [← HCC.out]; exact h128) (by have := HN.out; omega))
                obtain ⟨p, hp⟩ : ∃ p, p = a + 1 := ⟨_, rfl⟩
                obtain ⟨r, hr⟩ : ∃ r, r = a + 1 + k := ⟨_, rfl⟩
                have hpi : (a : Int) + 1 = (p : Int) := by omega
                have hri : (a : Int) + 257 - (cc : Int) = (r : Int) := by omega
                obtain ⟨vp, hvp, A6, c6, hv6, hA6, hc6, hm6, hl6⟩ := HP.out p r wr (by omega) (by omega) (HLi.out.below hbw)
                have hpl : ((l.drop p).take (r - p)).length = k := by rw [List.length_take, List.length_drop]; have := HN.out; omega
                have hpm : (((l.drop p).take (r - p)).map bv).length = k := by rw [List.length_map]; exact hpl
                have HPM := Lib.hid hpm
                have HPR := Lib.hid (show l.drop p = l.drop (a + 1) ∧ r - p = k by rw [hp]; exact ⟨rfl, by omega⟩)
                have hrn : r ≤ n := by omega
                have har : a < r := by omega
                have hrr : r = a + 1 + k := hr
                have HRR := Lib.hid hrr
                rw [hpl] at hv6 hA6
                subst hv6
                clear hpl hpm hk hr hrr
                have HPP := Lib.hid hp
                clear hp
                go_wp2_with (at_builtin; refine wpList_join elemB rfl _ _ rfl w.heap.size _ _ _ _ _ _ (((l.drop p).take (r - p)).map bv) w rfl rfl hA6 HPM.out hl6 (bv_one _) hown hbw hzw (by omega) (by omega) ?_)
                intro v7 w7 hown7 hb7 _ _
                have hlen : (m ++ (l.drop (a + 1)).take k).length = L + k := by
                  have h1 := HPM.out
                  rw [HPR.out.1, HPR.out.2, List.length_map] at h1
                  rw [List.length_append, h1, ← HL.out]
                have hown8 : w7.ownsRow w.heap.size 5 1 v7 (m ++ (l.drop (a + 1)).take k).length ((m ++ (l.drop (a + 1)).take k).map bv) := by
                  rw [hlen, List.map_append, ← HPR.out.1, ← HPR.out.2]
                  have h2 := HPR.out.2
                  rw [h2]
                  rw [h2] at hown7
                  simp only [List.map_take, List.map_drop] at hown7 ⊢
                  exact hown7
                have HLen := Lib.hid (show (m ++ (l.drop (a + 1)).take k).length ≤ 4300 by rw [hlen]; omega)
                clear hlen hown7 hown hl6 hvp hbw hzw
                go_wp2
                go_roundw
                case rel => exact ⟨r, _, by have := HN.out; omega, rfl, by rw [HRR.out]; exact hlist.out, HLen.out, hown8, hb7, hb7.size⟩
                case measure => simp [intOf]; omega
        · by_cases hov : M < L
          · have hovi : (M : Int) < (L : Int) := by omega
            have hE := Lib.hid (ytakeE_none hM (HM.out.over (by have := HL.out; omega)))
            go_wp2
            go_ret3
            rw [hE.out]
            exact RetBB.nil _ hbw
          · obtain rfl : L = M := by omega
            have hdone := HM.out
            rw [HL.out] at hdone
            have hE := Lib.hid (ytakeE_some hM (p := m) (q := l.drop a) (by rw [HL.out]; exact hdone.done))
            obtain ⟨vf, hvf, A6, c6, hv6, hA6, hc6, hm6, hl6⟩ := HF.out a wr ha' (HLi.out.below hbw)
            have hpl : (l.drop a).length = n - a := by rw [List.length_drop]; have := HN.out; omega
            have hpm : ((l.drop a).map bv).length = n - a := by rw [List.length_map]; exact hpl
            have HPM := Lib.hid hpm
            rw [hpl] at hv6 hA6
            subst hv6
            have hownN : (wr.alloc (.cells #[] 5)).ownsRow w.heap.size 5 1 (.slice (some ⟨wr.heap.size, 0, none⟩) 0 0) 0 [] := World.ownsRow_made wr #[] 0 hzw (by unfold maxLen; omega) (by simp)
            have hbN := hbw.alloc hzw (.cells #[] 5)
            have hzN := hbN.size
            have hlN := hl6.below ((Below.refl _ wr).alloc (Nat.le_refl _) (.cells #[] 5))
            have HU : Hid (IsB m (.slice B L cb) wr) := Lib.hid (isB_own hown)
            have HBW := Lib.hid hbw
            have hbN2 : Below wr.heap.size wr (wr.alloc (.cells #[] 5)) := (Below.refl _ wr).alloc (Nat.le_refl _) _
            have hownN2 : (wr.alloc (.cells #[] 5)).ownsRow wr.heap.size 5 1 (.slice (some ⟨wr.heap.size, 0, none⟩) 0 0) 0 [] := World.ownsRow_made wr #[] 0 (Nat.le_refl _) (by unfold maxLen; omega) (by simp)
            have hzN2 := hbN2.size
            clear hpl hpm hownN hbN hzN hown hbw hdone hl6
            go_wp2_with (at_builtin; refine wpList_join elemB rfl _ _ rfl wr.heap.size _ _ _ _ _ _ ((l.drop a).map bv) wr rfl rfl hA6 HPM.out hlN (bv_one _) hownN2 hbN2 hzN2 (by omega) (by omega) ?_)
            intro v7 w7 hown7 hb7 _ _
            have hI7 : IsB (l.drop a) v7 w7 := isB_own (n := n - a) (by simpa using hown7)
            have HI7 := Lib.hid hI7
            have HB7 := Lib.hid hb7
            clear hown7 hownN2 hbN2 hzN2 hlN hI7 hb7
            go_wp2
            go_ret3
            rw [hE.out]
            exact ⟨_, _, rfl, HU.out.below HB7.out, HI7.out, below_then HBW.out HB7.out⟩
end Go.Proofs.Ytffglnccpbbclaa
