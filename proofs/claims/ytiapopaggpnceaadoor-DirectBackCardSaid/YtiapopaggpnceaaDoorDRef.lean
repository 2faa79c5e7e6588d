
/- Contracts of layer 8's reference: Head, Look, Plain, Made, Same. -/

import Derived.Test.YtiapopaggpnceaaDoorDPlain

import Derived.Test.YtiapopaggpnceaaDoorERef

import Derived.Test.YtiapopaggpnceaaDoorStr

import Derived.Test.YtiapopaggpnceaaDoorSl

namespace Go.Proofs.YtiapopaggpnceaaDoor

open Go.RowKit

theorem isU_iff {l : List Nat} {v : Value} {w : World} : IsU l v w ↔ IsV uv l v w := Iff.rfl
theorem own_made (w : World) (e : TypeId) : (w.alloc (.cells #[] e)).ownsRow w.heap.size e 1 (.slice (some ⟨w.heap.size, 0, none⟩) 0 0) 0 [] := World.ownsRow_made w #[] 0 (Nat.le_refl _) (by unfold maxLen; omega) (by simp)
/-- What Look answers: three numbers, bytes, an error. -/
def RetK (w : World) (p : Int × Int × Int × List UInt8 × Int) (e : Ending) (w' : World) : Prop :=
  ∃ v, e = .returned (.tuple #[.int .i64 p.1, .int .i64 p.2.1, .int .i64 p.2.2.1, v, .int .i64 p.2.2.2.2]) ∧ IsB p.2.2.2.1 v w' ∧ Below w.heap.size w w'
theorem dlook_short {l : List UInt8} (h : l.length < 2) : dlook l = (0, 0, 0, [], 2) := by unfold dlook; rw [if_pos h]
theorem dlook_long {l : List UInt8} {X : Nat} (h : 2 ≤ l.length) (hX : X = 256 * l[0].toNat + l[1].toNat) : dlook l = (((X / 16384 : Nat) : Int), ((X / 512 % 32 : Nat) : Int), ((X % 512 + 1 : Nat) : Int), l.drop 2, 0) := by
  unfold dlook
  rw [if_neg (by omega), (bval_two h).1, ← hX]
set_option maxHeartbeats 2000000 in
set_option maxRecDepth 100000 in
theorem rlook8_any (l : List UInt8) (v : Value) (w : World) (hv : IsB l v w) (hb : l.length ≤ 1000000) :
    Calls Tryd.prog 10 #[v] w (RetK w (dlook l)) := by
  obtain ⟨A, c, rfl, hA, hnc, hcm, hl⟩ := hv
  obtain ⟨n, hn⟩ : ∃ n, n = l.length := ⟨_, rfl⟩
  rw [← hn] at hA hnc hb ⊢
  have hci : (c : Int) ≤ 9223372036854775807 := by unfold maxLen at hcm; omega
  by_cases h2 : n < 2
  · have hE := Lib.hid (dlook_short (l := l) (by omega))
    have d1 : decide ((n : Int) < 2) = true := decide_eq_true (by omega)
    clear hn hl hcm hA hnc
    go_enter Tryd.func10, Tryd.ntmps10
    go_wp2
    refine bodyPost_ret (results_tmp5 rfl _ _ _) rfl ?_
    rw [hE.out]
    exact ⟨_, rfl, isB_nil _, Below.refl _ _⟩
  · have hl2 : 2 ≤ l.length := by omega
    have d1 : decide ((n : Int) < 2) = false := decide_eq_false (by omega)
    obtain ⟨ad, rfl, _, hcell0⟩ := hl.cell (k := 0) (by rw [List.length_map]; omega)
    obtain ⟨_, hAd, _, hcell1⟩ := hl.cell (k := 1) (by rw [List.length_map]; omega)
    injection hAd with hAd
    subst hAd
    obtain ⟨x, hx⟩ : ∃ x : Nat, x = l[0].toNat := ⟨_, rfl⟩
    obtain ⟨y, hy⟩ : ∃ y : Nat, y = l[1].toNat := ⟨_, rfl⟩
    have hx8 : x < 256 := by rw [hx]; exact UInt8.toNat_lt _
    have hy8 : y < 256 := by rw [hy]; exact UInt8.toNat_lt _
    have hc0 : w.cell? ad = some (.int .u8 (x : Int)) := by
      have e : ad.add 0 = ad := by simp [Addr.add]
      rw [e] at hcell0
      rw [hcell0, List.getElem_map, hx]; rfl
    have hc1 : w.cell? ⟨ad.block, ad.off + 1, none⟩ = some (.int .u8 (y : Int)) := by
      have e : ad.add 1 = ⟨ad.block, ad.off + 1, none⟩ := by simp [Addr.add]
      rw [e] at hcell1
      rw [hcell1, List.getElem_map, hy]; rfl
    obtain ⟨X, hX⟩ : ∃ X, X = 256 * x + y := ⟨_, rfl⟩
    have hXb : X < 65536 := by omega
    have hE := Lib.hid (dlook_long (l := l) (X := X) hl2 (by rw [hX, hx, hy]))
    have hn0 : (0 : Int) < (n : Int) := by omega
    have hn1 : (1 : Int) < (n : Int) := by omega
    have HX := Lib.hid (show (256 * (x : Int) + (y : Int)) / 16384 = ((X / 16384 : Nat) : Int) ∧ (256 * (x : Int) + (y : Int)) / 512 % 32 = ((X / 512 % 32 : Nat) : Int) ∧ (256 * (x : Int) + (y : Int)) % 512 + 1 = ((X % 512 + 1 : Nat) : Int) from ⟨by omega, by omega, by omega⟩)
    have HN := Lib.hid hn
    obtain ⟨v6, hv6, A6, c6, e6, hA6, hc6, hm6, hl6⟩ := from_named (P := Tryd.prog) (w := w) elemB (k := 2) (by omega) hnc hcm hn.symm hl hA
    have hpl : (l.drop 2).length = n - 2 := by rw [List.length_drop]; omega
    have hpm : ((l.drop 2).map bv).length = n - 2 := by rw [List.length_map]; exact hpl
    have HPM := Lib.hid hpm
    rw [hpl] at e6 hA6
    obtain ⟨N, hN⟩ : ∃ N, N = n - 2 := ⟨_, rfl⟩
    rw [← hN] at e6 hA6 HPM
    have hNb : N ≤ 1000000 := by omega
    subst e6
    clear hN
    have hsl : ∀ W, (Instr.sliceAt 23 (.slice (some ad) n c) (some (.int .i64 2)) none none).run Tryd.prog W = .ok (.slice A6 N c6) W := hv6
    clear hn hx hy hX hcell0 hcell1 hl hv6 hpl hpm hc6 hm6
    go_enter Tryd.func10, Tryd.ntmps10
    go_wp2
    go_quiet (fail)
    have hown0 : ((w.drewN nq).alloc (.cells #[] 5)).ownsRow w.heap.size 5 1 (.slice (some ⟨w.heap.size, 0, none⟩) 0 0) 0 [] := own_made (w.drewN nq) 5
    have hb0 : Below w.heap.size w ((w.drewN nq).alloc (.cells #[] 5)) := (below_drewN (Below.refl _ _) nq).alloc (Nat.le_refl _) _
    have hz0 := hb0.size
    have hl0 := hl6.below hb0
    go_wp2_with (at_builtin; refine wpList_join elemB rfl _ _ rfl w.heap.size _ _ _ _ _ _ ((l.drop 2).map bv) w rfl rfl hA6 HPM.out hl0 (bv_one _) hown0 hb0 hz0 (by omega) (by omega) ?_)
    intro v7 w7 hown7 hb7 _ _
    have HI7 := Lib.hid (show IsB (l.drop 2) v7 w7 from isB_own (n := N) (by simpa using hown7))
    have HB7 := Lib.hid hb7
    clear hown7 hb7 hown0 hb0 hz0 hl0
    go_wp2
    refine bodyPost_ret (results_tmp5 rfl _ _ _) rfl ?_
    rw [hE.out]
    refine ⟨_, ?_, HI7.out, HB7.out⟩
    rw [← HX.out.1, ← HX.out.2.1, ← HX.out.2.2]
    rfl

/-- A row of values and an error that a call answers. -/
def RetV {α : Type} (f : α → Value) (w : World) (p : List α × Int) (e : Ending) (w' : World) : Prop := ∃ u, e = .returned (.tuple #[u, .int .i64 p.2]) ∧ IsV f p.1 u w' ∧ Below w.heap.size w w'
theorem RetV.nil {α : Type} {f : α → Value} {w w' : World} (n : Int) (hb : Below w.heap.size w w') : RetV f w ([], n) (.returned (.tuple #[.slice none 0 0, .int .i64 n])) w' := ⟨_, rfl, isV_nil _ _, hb⟩
theorem omap_take {α β : Type} {f : α → Option β} {l : List α} {k : Nat} {acc : List β} {y : β} (hk : k < l.length) (h : omap f (l.take k) = some acc) (hy : f l[k] = some y) : omap f (l.take (k + 1)) = some (acc ++ [y]) := by
  rw [List.take_succ_eq_append_getElem hk, omap_snoc, h, hy]
def OmapRel {α β : Type} (f : α → Option β) (enc : β → Value) (t : TypeId) (l : List α) (w : World) (v i : Value) (wr : World) : Prop :=
  ∃ (k : Nat) (acc : List β), k ≤ l.length ∧ i = .int .i64 (k : Int) ∧ omap f (l.take k) = some acc ∧ wr.ownsRow w.heap.size t 1 v acc.length (acc.map enc) ∧ Below w.heap.size w wr
set_option maxHeartbeats 2000000 in
set_option maxRecDepth 100000 in
theorem rplain8_any (l : List Int) (v : Value) (s : Bool) (w : World) (hv : IsV iv l v w) (hl : ∀ x ∈ l, inInt x) (hb : l.length ≤ 1000000) :
    Calls Tryd.prog 15 #[v, .bool s] w (RetV uv w (dplainE l s)) := by
  obtain ⟨A, c, rfl, hA, hnc, hcm, hlw⟩ := hv
  obtain ⟨n, hn⟩ : ∃ n, n = l.length := ⟨_, rfl⟩
  rw [← hn] at hA hnc hb ⊢
  have hst : OmapRel (eplain · s) uv 52 l w (.slice (some ⟨w.heap.size, 0, none⟩) 0 0) (.int .i64 0) (w.alloc (.cells #[] 52)) := ⟨0, [], by omega, rfl, rfl, own_made w _, (Below.refl _ _).alloc (Nat.le_refl _) _⟩
  have HN := Lib.hid hn
  have HL := Lib.hid hlw
  have HI := Lib.hid hl
  clear hn hlw hl hcm hA
  go_enter Tryd.func15, Tryd.ntmps15
  go_wp2
  go_loopw [6, 7] (OmapRel (eplain · s) uv 52 l w) (fun _ i _ => n - (intOf i).toNat)
  case atStart => exact hst
  case round =>
    obtain ⟨k, acc, hk, rfl, hacc, hown, hbw⟩ := hrel
    have hz := hbw.size
    have hal : acc.length = k := by rw [omap_len hacc, List.length_take]; omega
    have HACC := Lib.hid hacc
    have HAL := Lib.hid hal
    have hk' : k ≤ n := by have := HN.out; omega
    clear hst hacc
    rw [hal] at hown
    clear hal
    by_cases hlt : k < n
    · have hkl : k < l.length := by have := HN.out; omega
      have hlti : (k : Int) < (n : Int) := by omega
      obtain ⟨ad, rfl, _, hcell⟩ := (HL.out.below hbw).cell (k := k) (by rw [List.length_map]; exact hkl)
      obtain ⟨x, hx⟩ : ∃ x, x = l[k] := ⟨_, rfl⟩
      have hcx : wr.cell? (ad.add k) = some (.int .i64 x) := by rw [hcell, List.getElem_map, hx]; rfl
      have hxb : inInt x := by rw [hx]; exact HI.out _ (List.getElem_mem hkl)
      have HP := Lib.hid (rplain7_any x s wr hxb.1 hxb.2)
      obtain ⟨u, hu⟩ : ∃ u, u = (eplain x s).getD 0 := ⟨_, rfl⟩
      obtain ⟨ok, hok⟩ : ∃ ok, ok = (eplain x s).isSome := ⟨_, rfl⟩
      rw [← hu, ← hok] at HP
      have HX := Lib.hid hx
      have HU := Lib.hid hu
      have HOK := Lib.hid hok
      clear hx hu hok hcell hxb
      cases ok with
      | false =>
        have hE : Hid (dplainE l s = ([], 1)) := Lib.hid (by
          have h0 : eplain x s = none := by simpa using HOK.out.symm
          have h1 : dplain l s = none := omap_none (x := x) (by rw [HX.out]; exact List.getElem_mem hkl) h0
          unfold dplainE; rw [h1])
        go_wp2_with (go_at_call 28; refine HP.out.mono ?_; rintro e w' ⟨rfl, rfl⟩)
        go_ret2
        rw [hE.out]
        exact RetV.nil _ hbw
      | true =>
        have hnext : Hid (omap (eplain · s) (l.take (k + 1)) = some (acc ++ [u])) := Lib.hid (omap_take hkl HACC.out (by
          rw [← HX.out]
          have h0 := HOK.out
          have h1 := HU.out
          cases he : eplain x s with
          | none => rw [he] at h0; simp at h0
          | some z => rw [he] at h1; simp at h1; rw [h1]))
        go_wp2_with (first | (go_at_call 28; refine HP.out.mono ?_; rintro e w' ⟨rfl, rfl⟩) | (at_builtin; refine wpList_push elemU rfl _ _ rfl w.heap.size _ _ _ (uv u) wr w rfl rfl rfl rfl hown hbw hz (by omega) (by omega) ?_))
        intro v5 w5 hown5 hb5 _ _
        have hown6 : w5.ownsRow w.heap.size 52 1 v5 (acc ++ [u]).length ((acc ++ [u]).map uv) := by
          rw [List.length_append, List.length_singleton, List.map_append, List.map_singleton, HAL.out]
          exact hown5
        clear hown5 hown
        go_wp2
        go_roundw
        case rel => exact ⟨k + 1, _, by have := HN.out; omega, by go_num, hnext.out, hown6, hb5⟩
        case measure => simp [intOf]; omega
    · obtain rfl : k = n := by omega
      have hlti : ¬ (k : Int) < (k : Int) := by omega
      have hE : Hid (dplainE l s = (acc, 0)) := Lib.hid (by
        have h1 := HACC.out
        rw [List.take_of_length_le (by have := HN.out; omega)] at h1
        unfold dplainE dplain; rw [h1])
      go_wp2
      go_ret2
      rw [hE.out]
      exact ⟨_, rfl, isV_own hown, hbw⟩
set_option maxHeartbeats 2000000 in
set_option maxRecDepth 100000 in
theorem rmade8_any (l : List Nat) (v : Value) (s : Bool) (w : World) (hv : IsV uv l v w) (hl : ∀ x ∈ l, x < 2 ^ 64) (hb : l.length ≤ 1000000) :
    Calls Tryd.prog 17 #[v, .bool s] w (RetV iv w (dmadeE l s)) := by
  obtain ⟨A, c, rfl, hA, hnc, hcm, hlw⟩ := hv
  obtain ⟨n, hn⟩ : ∃ n, n = l.length := ⟨_, rfl⟩
  rw [← hn] at hA hnc hb ⊢
  have hst : OmapRel (emade · s) iv 3 l w (.slice (some ⟨w.heap.size, 0, none⟩) 0 0) (.int .i64 0) (w.alloc (.cells #[] 3)) := ⟨0, [], by omega, rfl, rfl, own_made w _, (Below.refl _ _).alloc (Nat.le_refl _) _⟩
  have HN := Lib.hid hn
  have HL := Lib.hid hlw
  have HI := Lib.hid hl
  clear hn hlw hl hcm hA
  go_enter Tryd.func17, Tryd.ntmps17
  go_wp2
  go_loopw [6, 7] (OmapRel (emade · s) iv 3 l w) (fun _ i _ => n - (intOf i).toNat)
  case atStart => exact hst
  case round =>
    obtain ⟨k, acc, hk, rfl, hacc, hown, hbw⟩ := hrel
    have hz := hbw.size
    have hal : acc.length = k := by rw [omap_len hacc, List.length_take]; omega
    have HACC := Lib.hid hacc
    have HAL := Lib.hid hal
    have hk' : k ≤ n := by have := HN.out; omega
    clear hst hacc
    rw [hal] at hown
    clear hal
    by_cases hlt : k < n
    · have hkl : k < l.length := by have := HN.out; omega
      have hlti : (k : Int) < (n : Int) := by omega
      obtain ⟨ad, rfl, _, hcell⟩ := (HL.out.below hbw).cell (k := k) (by rw [List.length_map]; exact hkl)
      obtain ⟨x, hx⟩ : ∃ x, x = l[k] := ⟨_, rfl⟩
      have hcx : wr.cell? (ad.add k) = some (.int .u64 (x : Int)) := by rw [hcell, List.getElem_map, hx]; rfl
      have hxb : x < 2 ^ 64 := by rw [hx]; exact HI.out _ (List.getElem_mem hkl)
      have HP := Lib.hid (rmade7_any (x : Int) s wr (by omega) (by omega))
      rw [Int.toNat_natCast] at HP
      obtain ⟨u, hu⟩ : ∃ u, u = (emade x s).getD 0 := ⟨_, rfl⟩
      obtain ⟨ok, hok⟩ : ∃ ok, ok = (emade x s).isSome := ⟨_, rfl⟩
      rw [← hu, ← hok] at HP
      have HX := Lib.hid hx
      have HU := Lib.hid hu
      have HOK := Lib.hid hok
      clear hx hu hok hcell hxb
      cases ok with
      | false =>
        have hE : Hid (dmadeE l s = ([], 2)) := Lib.hid (by
          have h0 : emade x s = none := by simpa using HOK.out.symm
          have h1 : dmade l s = none := omap_none (x := x) (by rw [HX.out]; exact List.getElem_mem hkl) h0
          unfold dmadeE; rw [h1])
        go_wp2_with (go_at_call 30; refine HP.out.mono ?_; rintro e w' ⟨rfl, rfl⟩)
        go_ret2
        rw [hE.out]
        exact RetV.nil _ hbw
      | true =>
        have hnext : Hid (omap (emade · s) (l.take (k + 1)) = some (acc ++ [u])) := Lib.hid (omap_take hkl HACC.out (by
          rw [← HX.out]
          have h0 := HOK.out
          have h1 := HU.out
          cases he : emade x s with
          | none => rw [he] at h0; simp at h0
          | some z => rw [he] at h1; simp at h1; rw [h1]))
        go_wp2_with (first | (go_at_call 30; refine HP.out.mono ?_; rintro e w' ⟨rfl, rfl⟩) | (at_builtin; refine wpList_push elemI rfl _ _ rfl w.heap.size _ _ _ (iv u) wr w rfl rfl rfl rfl hown hbw hz (by omega) (by omega) ?_))
        intro v5 w5 hown5 hb5 _ _
        have hown6 : w5.ownsRow w.heap.size 3 1 v5 (acc ++ [u]).length ((acc ++ [u]).map iv) := by
          rw [List.length_append, List.length_singleton, List.map_append, List.map_singleton, HAL.out]
          exact hown5
        clear hown5 hown
        go_wp2
        go_roundw
        case rel => exact ⟨k + 1, _, by have := HN.out; omega, by go_num, hnext.out, hown6, hb5⟩
        case measure => simp [intOf]; omega
    · obtain rfl : k = n := by omega
      have hlti : ¬ (k : Int) < (k : Int) := by omega
      have hE : Hid (dmadeE l s = (acc, 0)) := Lib.hid (by
        have h1 := HACC.out
        rw [List.take_of_length_le (by have := HN.out; omega)] at h1
        unfold dmadeE dmade; rw [h1])
      go_wp2
      go_ret2
      rw [hE.out]
      exact ⟨_, rfl, isV_own hown, hbw⟩

def SameRelI (l m : List Int) (w : World) (i : Value) (wr : World) : Prop := ∃ k : Nat, i = .int .i64 (k : Int) ∧ k ≤ l.length ∧ l.take k = m.take k ∧ Below w.heap.size w wr
set_option maxHeartbeats 1000000 in
theorem same8_any (A B : Option Addr) (n c n' c' : Nat) (l m : List Int) (w : World) (hn : l.length = n) (hn' : m.length = n') (hb : n ≤ 1000000) (hb' : n' ≤ 1000000) (hl : Lies w A (l.map iv)) (hm : Lies w B (m.map iv)) :
    Calls Tryd.prog 19 #[.slice A n c, .slice B n' c'] w fun e w' => e = .returned (.bool (l == m)) ∧ Below w.heap.size w w' := by
  have HN := Lib.hid hn
  have HN' := Lib.hid hn'
  clear hn hn'
  by_cases hnn : n = n'
  · subst hnn
    have d1 : ((n : Int) != (n : Int)) = false := by simp
    go_enter Tryd.func19, Tryd.ntmps19
    go_wp2
    go_loopw [5] (SameRelI l m w) (fun i _ => n - (intOf i).toNat)
    case atStart => exact ⟨0, rfl, by omega, by simp, Below.refl _ _⟩
    case round =>
      obtain ⟨k, rfl, hk, he, hbr⟩ := hrel
      have HE := Lib.hid he
      clear he
      have hk' : k ≤ n := by have := HN.out; omega
      by_cases hlt : k < n
      · have hkl : k < l.length := by have := HN.out; omega
        have hkm : k < m.length := by have := HN'.out; omega
        obtain ⟨ad, rfl, _, hcell⟩ := (hl.below hbr).cell (k := k) (by simpa using hkl)
        obtain ⟨ad', rfl, _, hcell'⟩ := (hm.below hbr).cell (k := k) (by simpa using hkm)
        obtain ⟨x, hx⟩ : ∃ x : Int, x = l[k] := ⟨_, rfl⟩
        obtain ⟨y, hy⟩ : ∃ y : Int, y = m[k] := ⟨_, rfl⟩
        have hcx : wr.cell? (ad.add k) = some (.int .i64 x) := by rw [hcell, List.getElem_map, hx]; rfl
        have hcy : wr.cell? (ad'.add k) = some (.int .i64 y) := by rw [hcell', List.getElem_map, hy]; rfl
        have HX := Lib.hid hx
        have HY := Lib.hid hy
        clear hx hy hcell hcell'
        have hlti : (k : Int) < (n : Int) := by omega
        by_cases hxy : x = y
        · subst hxy
          have d2 : (x != x) = false := by simp
          go_wp2
          go_quiet (fail)
          go_wp2
          go_roundw
          case rel =>
            refine ⟨k + 1, by go_num, by omega, ?_, below_drewN hbr _⟩
            rw [List.take_succ_eq_append_getElem hkl, List.take_succ_eq_append_getElem hkm, HE.out, ← HX.out, ← HY.out]
          case measure => simp [intOf]; omega
        · have d2 : (x != y) = true := by simpa using hxy
          have hne : (l == m) = false := by
            rw [beq_eq_false_iff_ne]
            intro h
            subst h
            exact hxy (by rw [HX.out, HY.out])
          go_wp2
          go_quiet (fail)
          go_wp2
          go_ret
          exact ⟨ret_bool hne.symm, below_drewN hbr _⟩
      · obtain rfl : k = n := by omega
        have heq : (l == m) = true := by
          rw [beq_iff_eq]
          have h1 := HE.out
          rw [List.take_of_length_le (by have := HN.out; omega), List.take_of_length_le (by have := HN'.out; omega)] at h1
          exact h1
        have HQ := Lib.hid heq
        clear heq
        go_wp2
        go_ret
        exact ⟨ret_bool HQ.out.symm, hbr⟩
  · have d1 : ((n : Int) != (n' : Int)) = true := by simpa using (fun h => hnn (by omega))
    have hne : (l == m) = false := by
      rw [beq_eq_false_iff_ne]
      intro h
      subst h
      exact hnn (by rw [← HN.out, ← HN'.out])
    have HQ := Lib.hid hne
    clear hne
    go_enter Tryd.func19, Tryd.ntmps19
    go_wp2
    go_ret
    exact ⟨ret_bool HQ.out.symm, Below.refl _ _⟩
theorem same8_is {l m : List Int} {u v : Value} {w : World} (hl : IsV iv l u w) (hm : IsV iv m v w) (h1 : l.length ≤ 1000000) (h2 : m.length ≤ 1000000) :
    Calls Tryd.prog 19 #[u, v] w fun e w' => e = .returned (.bool (l == m)) ∧ Below w.heap.size w w' := by
  obtain ⟨A, c, rfl, _, _, _, h3⟩ := hl
  obtain ⟨B, c', rfl, _, _, _, h4⟩ := hm
  exact same8_any A B _ c _ c' l m w rfl rfl h1 h2 h3 h4
theorem dhead_no {k c m : Int} (h : ¬ (0 ≤ k ∧ k ≤ 3 ∧ 0 ≤ c ∧ c ≤ 31 ∧ 1 ≤ m ∧ m ≤ 512)) : dhead k c m = [] := by unfold dhead; rw [if_neg h]
theorem dheadN_two {k c m X h y : Nat} (hX : X = 16384 * k + 512 * c + (m - 1)) (hh : h = X / 256) (hy : y = X % 256) (hb : X < 65536) : (dheadN k c m).map bv = [.int .u8 (h : Int), .int .u8 (y : Int)] := by
  have e : dheadN k c m = [UInt8.ofNat h, UInt8.ofNat y] := by
    unfold dheadN
    rw [← hX]
    symm
    refine eq_be rfl ?_
    have h1 : (UInt8.ofNat h).toNat = h := by rw [UInt8.toNat_ofNat']; omega
    have h2 : (UInt8.ofNat y).toNat = y := by rw [UInt8.toNat_ofNat']; omega
    simp only [bval, List.length_cons, List.length_nil, h1, h2]
    omega
  rw [e]
  have h1 : (UInt8.ofNat h).toNat = h := by rw [UInt8.toNat_ofNat']; omega
  have h2 : (UInt8.ofNat y).toNat = y := by rw [UInt8.toNat_ofNat']; omega
  simp only [List.map_cons, List.map_nil, bv, h1, h2]
/-- Bytes in a row of the call's own. -/
def RetH (w : World) (l : List UInt8) (e : Ending) (w' : World) : Prop := ∃ v, e = .returned v ∧ w'.ownsRow w.heap.size 5 1 v l.length (l.map bv) ∧ Below w.heap.size w w'
theorem own_new (w : World) (e : TypeId) (xs : List Value) (n : Nat) (hn : xs.length = n) (hb : n ≤ 1000000) : (w.alloc (.cells xs.toArray e)).ownsRow w.heap.size e 1 (.slice (some ⟨w.heap.size, 0, none⟩) n n) n xs :=
  ⟨by simpa using hn, .inr ⟨w.heap.size, n, xs.toArray, rfl, Nat.le_refl _, heap_alloc_new w _, Nat.le_refl _, by unfold maxLen; omega, by simp [hn], by subst hn; simp⟩⟩
set_option maxHeartbeats 2000000 in
set_option maxRecDepth 100000 in
theorem rhead8_any (k c m : Int) (w : World) : Calls Tryd.prog 12 #[.int .i64 k, .int .i64 c, .int .i64 m] w (RetH w (dhead k c m)) := by
  by_cases h0 : k < 0
  · have d0 : decide (k < 0) = true := decide_eq_true h0
    have hE := Lib.hid (dhead_no (k := k) (c := c) (m := m) (by omega))
    go_enter Tryd.func12, Tryd.ntmps12
    go_wp2
    go_ret
    rw [hE.out]
    exact ⟨_, rfl, World.ownsRow_nil _ _ _ _, Below.refl _ _⟩
  · have d0 : decide (k < 0) = false := decide_eq_false h0
    by_cases h1 : 3 < k
    · have d1 : decide ((3 : Int) < k) = true := decide_eq_true h1
      have hE := Lib.hid (dhead_no (k := k) (c := c) (m := m) (by omega))
      go_enter Tryd.func12, Tryd.ntmps12
      go_wp2
      go_ret
      rw [hE.out]
      exact ⟨_, rfl, World.ownsRow_nil _ _ _ _, Below.refl _ _⟩
    · have d1 : decide ((3 : Int) < k) = false := decide_eq_false h1
      by_cases h2 : c < 0
      · have d2 : decide (c < 0) = true := decide_eq_true h2
        have hE := Lib.hid (dhead_no (k := k) (c := c) (m := m) (by omega))
        go_enter Tryd.func12, Tryd.ntmps12
        go_wp2
        go_ret
        rw [hE.out]
        exact ⟨_, rfl, World.ownsRow_nil _ _ _ _, Below.refl _ _⟩
      · have d2 : decide (c < 0) = false := decide_eq_false h2
        by_cases h3 : 31 < c
        · have d3 : decide ((31 : Int) < c) = true := decide_eq_true h3
          have hE := Lib.hid (dhead_no (k := k) (c := c) (m := m) (by omega))
          go_enter Tryd.func12, Tryd.ntmps12
          go_wp2
          go_ret
          rw [hE.out]
          exact ⟨_, rfl, World.ownsRow_nil _ _ _ _, Below.refl _ _⟩
        · have d3 : decide ((31 : Int) < c) = false := decide_eq_false h3
          by_cases h4 : m < 1
          · have d4 : decide (m < 1) = true := decide_eq_true h4
            have hE := Lib.hid (dhead_no (k := k) (c := c) (m := m) (by omega))
            go_enter Tryd.func12, Tryd.ntmps12
            go_wp2
            go_ret
            rw [hE.out]
            exact ⟨_, rfl, World.ownsRow_nil _ _ _ _, Below.refl _ _⟩
          · have d4 : decide (m < 1) = false := decide_eq_false h4
            by_cases h5 : 512 < m
            · have d5 : decide ((512 : Int) < m) = true := decide_eq_true h5
              have hE := Lib.hid (dhead_no (k := k) (c := c) (m := m) (by omega))
              go_enter Tryd.func12, Tryd.ntmps12
              go_wp2
              go_ret
              rw [hE.out]
              exact ⟨_, rfl, World.ownsRow_nil _ _ _ _, Below.refl _ _⟩
            · have d5 : decide ((512 : Int) < m) = false := decide_eq_false h5
              obtain ⟨K, rfl⟩ := Int.eq_ofNat_of_zero_le (show 0 ≤ k by omega)
              obtain ⟨C, rfl⟩ := Int.eq_ofNat_of_zero_le (show 0 ≤ c by omega)
              obtain ⟨M, rfl⟩ := Int.eq_ofNat_of_zero_le (show 0 ≤ m by omega)
              obtain ⟨X, hX⟩ : ∃ X, X = 16384 * K + 512 * C + (M - 1) := ⟨_, rfl⟩
              obtain ⟨h, hh⟩ : ∃ h, h = X / 256 := ⟨_, rfl⟩
              obtain ⟨y, hy⟩ : ∃ y, y = X % 256 := ⟨_, rfl⟩
              have hXb : X < 65536 := by omega
              have hXi : 16384 * (K : Int) + 512 * (C : Int) + (M : Int) - 1 = (X : Int) := by omega
              have hhi : (X : Int) / 256 = (h : Int) := by omega
              have hyi : (X : Int) % 256 = (y : Int) := by omega
              have hhw : IntKind.u8.wrap (h : Int) = (h : Int) := by rw [IntKind.wrap_u8]; omega
              have hyw : IntKind.u8.wrap (y : Int) = (y : Int) := by rw [IntKind.wrap_u8]; omega
              have hE := Lib.hid (dhead_in (k := K) (c := C) (m := M) (by omega) (by omega) (by omega) (by omega))
              have hT := Lib.hid (dheadN_two hX hh hy hXb)
              clear hX hh hy
              go_enter Tryd.func12, Tryd.ntmps12
              go_wp2
              go_ret
              rw [hE.out]
              refine ⟨_, rfl, ?_, (Below.refl _ _).alloc (Nat.le_refl _) _⟩
              have h9 := own_new w 5 ((dheadN K C M).map bv) 2 (by rw [List.length_map]; exact dheadN_len _ _ _) (by omega)
              rw [hT.out] at h9
              rw [hT.out, dheadN_len]
              exact h9
end Go.Proofs.YtiapopaggpnceaaDoor
