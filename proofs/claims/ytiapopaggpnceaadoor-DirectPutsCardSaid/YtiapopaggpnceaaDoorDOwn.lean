
/- direct's own contracts, but Take's and Put's. -/

import Derived.Test.YtiapopaggpnceaaDoorDRPut

import Derived.Test.YtiapopaggpnceaaDoorERTake

import Derived.Test.YtiapopaggpnceaaDoorMask

namespace Go.Proofs.YtiapopaggpnceaaDoor

open Go.RowKit

theorem i64_or_nat (a b : Nat) (ha : a < 2 ^ 63) (hb : b < 2 ^ 63) : bits .or .i64 (a : Int) (b : Int) = ((a ||| b : Nat) : Int) := by
  have h := Nat.or_lt_two_pow ha hb
  show IntKind.i64.wrap ((BitVec.ofInt 64 (a : Int) ||| BitVec.ofInt 64 (b : Int)).toNat : Int) = _
  rw [BitVec.toNat_or, BitVec.ofInt_natCast, BitVec.ofInt_natCast, BitVec.toNat_ofNat, BitVec.toNat_ofNat, Nat.mod_eq_of_lt (by omega), Nat.mod_eq_of_lt (by omega), IntKind.wrap_i64]
  omega
/-- Bits that don't meet are added. -/
theorem or_i64 (n Y P : Nat) (h0 : Y % 2 ^ n = 0) (h1 : P < 2 ^ n) (h2 : Y + P < 2 ^ 63) : bits .or .i64 (Y : Int) (P : Int) = ((Y + P : Nat) : Int) := by
  rw [i64_or_nat _ _ (by omega) (by omega), nat_join n Y P h0 h1]
theorem dcount_yes (n : Int) (w : World) (h0 : 1 ≤ n) (h1 : n ≤ 512) : Calls Tryd.prog 26 #[.int .i64 n] w fun e w' => e = .returned (.bool true) ∧ w = w' := by
  go_enter Tryd.func26, Tryd.ntmps26
  go_wp2
  go_ret
  exact ⟨rfl, rfl⟩
theorem dcount_no (n : Int) (w : World) (h : n < 1 ∨ 512 < n) : Calls Tryd.prog 26 #[.int .i64 n] w fun e w' => e = .returned (.bool false) ∧ w = w' := by
  rcases h with h | h
  · have h2 : decide (1 ≤ n) = false := by simp; omega
    go_enter Tryd.func26, Tryd.ntmps26
    go_wp2
    go_ret
    exact ⟨rfl, rfl⟩
  · have h2 : decide (n ≤ 512) = false := by simp; omega
    go_enter Tryd.func26, Tryd.ntmps26
    go_wp2
    go_ret
    exact ⟨rfl, rfl⟩
theorem wof_fin : ∀ c : Fin 32, 0 < wof (c.val : Int) := by decide +kernel
theorem wof_zero {c : Int} : wof c = 0 ↔ ¬ (0 ≤ c ∧ c ≤ 31) := by
  constructor
  · rintro h ⟨h0, h1⟩
    obtain ⟨k, rfl⟩ := Int.eq_ofNat_of_zero_le h0
    have h2 := wof_fin ⟨k, by omega⟩
    dsimp only at h2
    rw [h] at h2
    exact absurd h2 (by decide)
  · intro h
    exact wof_out (by omega)
set_option maxHeartbeats 2000000 in
set_option maxRecDepth 100000 in
theorem dhead_own (k c m : Int) (w : World) (ht : WTab w) (hk : inInt k) (hc : inInt c) (hm : inInt m) : Calls Tryd.prog 11 #[.int .i64 k, .int .i64 c, .int .i64 m] w (RetH w (dhead k c m)) := by
  have HOF := Lib.hid (of_any c w ht hc.1 hc.2)
  by_cases h0 : k < 0
  · have d0 : decide (k < 0) = true := decide_eq_true h0
    have hE := Lib.hid (dhead_no (k := k) (c := c) (m := m) (by omega))
    clear ht
    go_enter Tryd.func11, Tryd.ntmps11
    go_wp2
    go_ret
    rw [hE.out]
    exact ⟨_, rfl, World.ownsRow_nil _ _ _ _, Below.refl _ _⟩
  · have d0 : decide (k < 0) = false := decide_eq_false h0
    by_cases h1 : 4 ≤ k
    · have d1 : decide (4 ≤ k) = true := decide_eq_true h1
      have hE := Lib.hid (dhead_no (k := k) (c := c) (m := m) (by omega))
      clear ht
      go_enter Tryd.func11, Tryd.ntmps11
      go_wp2
      go_ret
      rw [hE.out]
      exact ⟨_, rfl, World.ownsRow_nil _ _ _ _, Below.refl _ _⟩
    · have d1 : decide (4 ≤ k) = false := decide_eq_false h1
      obtain ⟨W, hW⟩ : ∃ W, W = wof c := ⟨_, rfl⟩
      have hz : W = 0 ↔ ¬ (0 ≤ c ∧ c ≤ 31) := by rw [hW]; exact wof_zero
      rw [← hW] at HOF
      clear hW ht
      by_cases h2 : W = 0
      · have hE := Lib.hid (dhead_no (k := k) (c := c) (m := m) (fun h => (hz.1 h2) ⟨h.2.2.1, h.2.2.2.1⟩))
        have d2 : (W == 0) = true := by simpa using h2
        clear h2 hz
        go_enter Tryd.func11, Tryd.ntmps11
        go_wp2_with (go_at_call 25; refine HOF.out.mono ?_; rintro e w' ⟨rfl, rfl⟩)
        go_ret
        rw [hE.out]
        exact ⟨_, rfl, World.ownsRow_nil _ _ _ _, Below.refl _ _⟩
      · have d2 : (W == 0) = false := by simpa using h2
        have hc2 : 0 ≤ c ∧ c ≤ 31 := Classical.not_not.1 (fun h => h2 (hz.2 h))
        clear h2 hz
        by_cases h3 : m < 1 ∨ 512 < m
        · have hE := Lib.hid (dhead_no (k := k) (c := c) (m := m) (by omega))
          have HC := Lib.hid (dcount_no m w h3)
          clear h3
          go_enter Tryd.func11, Tryd.ntmps11
          go_wp2_with (first | (go_at_call 25; refine HOF.out.mono ?_; rintro e w' ⟨rfl, rfl⟩) | (go_at_call 26; refine HC.out.mono ?_; rintro e w' ⟨rfl, rfl⟩))
          go_ret
          rw [hE.out]
          exact ⟨_, rfl, World.ownsRow_nil _ _ _ _, Below.refl _ _⟩
        · have HC := Lib.hid (dcount_yes m w (by omega) (by omega))
          obtain ⟨K, rfl⟩ := Int.eq_ofNat_of_zero_le (show 0 ≤ k by omega)
          obtain ⟨C, rfl⟩ := Int.eq_ofNat_of_zero_le (show 0 ≤ c by omega)
          obtain ⟨M, rfl⟩ := Int.eq_ofNat_of_zero_le (show 0 ≤ m by omega)
          have hK : K ≤ 3 := by omega
          have hC : C ≤ 31 := by omega
          have hM1 : 1 ≤ M := by omega
          have hM : M ≤ 512 := by omega
          obtain ⟨P, hP⟩ : ∃ P, M = P + 1 := ⟨M - 1, by omega⟩
          have hE := Lib.hid (dhead_in hK hC hM1 hM)
          obtain ⟨a1, ha1⟩ : ∃ a, a = 16384 * K := ⟨_, rfl⟩
          obtain ⟨a2, ha2⟩ : ∃ a, a = 512 * C := ⟨_, rfl⟩
          obtain ⟨Y, hY⟩ : ∃ Y, Y = a1 + a2 := ⟨_, rfl⟩
          obtain ⟨X, hX⟩ : ∃ X, X = Y + P := ⟨_, rfl⟩
          obtain ⟨H, hH⟩ : ∃ H, H = X / 256 := ⟨_, rfl⟩
          obtain ⟨Z, hZ⟩ : ∃ Z, Z = X % 256 := ⟨_, rfl⟩
          have s1 : IntKind.i64.wrap ((K : Int) * 2 ^ 14) = (a1 : Int) := by rw [IntKind.wrap_i64]; omega
          have s1' : (K : Int) * 16384 = (a1 : Int) := by omega
          have s2 : IntKind.i64.wrap ((C : Int) * 2 ^ 9) = (a2 : Int) := by rw [IntKind.wrap_i64]; omega
          have s2' : (C : Int) * 512 = (a2 : Int) := by omega
          have o1 : bits .or .i64 (a1 : Int) (a2 : Int) = (Y : Int) := by rw [hY]; exact or_i64 14 a1 a2 (by omega) (by omega) (by omega)
          have o2 : bits .or .i64 (Y : Int) (P : Int) = (X : Int) := by rw [hX]; exact or_i64 9 Y P (by omega) (by omega) (by omega)
          have hp : ((P + 1 : Nat) : Int) - 1 = (P : Int) := by omega
          have q1 : (X : Int) / 2 ^ 8 = (H : Int) := by omega
          have q1' : (X : Int) / 256 = (H : Int) := by omega
          have w1 : IntKind.u8.wrap (H : Int) = (H : Int) := by rw [IntKind.wrap_u8]; omega
          have w2 : IntKind.u8.wrap (X : Int) = (Z : Int) := by rw [IntKind.wrap_u8]; omega
          have HT := Lib.hid (dheadN_two (k := K) (c := C) (m := M) (X := X) (h := H) (y := Z) (by omega) hH hZ (by omega))
          subst hP
          have hown := own_new w 5 [.int .u8 (H : Int), .int .u8 (Z : Int)] 2 rfl (by omega)
          rw [← HT.out] at hown
          have HOWN := Lib.hid hown
          clear hown ha1 ha2 hY hX hH hZ hc2
          go_enter Tryd.func11, Tryd.ntmps11
          go_wp2_with (first | (go_at_call 25; refine HOF.out.mono ?_; rintro e w' ⟨rfl, rfl⟩) | (go_at_call 26; refine HC.out.mono ?_; rintro e w' ⟨rfl, rfl⟩))
          go_ret
          rw [hE.out]
          refine ⟨_, rfl, ?_, (Below.refl _ _).alloc (Nat.le_refl _) _⟩
          have h := HOWN.out
          rw [HT.out] at h
          rw [dheadN_len, HT.out]
          exact h
/-- Bytes that a call answers. -/
def RetS (w : World) (l : List UInt8) (e : Ending) (w' : World) : Prop := ∃ v, e = .returned v ∧ IsB l v w' ∧ Below w.heap.size w w'
theorem dhead_any (k c m : Int) (w : World) (ht : WTab w) (hk : inInt k) (hc : inInt c) (hm : inInt m) : Calls Tryd.prog 11 #[.int .i64 k, .int .i64 c, .int .i64 m] w (RetS w (dhead k c m)) :=
  (dhead_own k c m w ht hk hc hm).mono fun _ _ ⟨v, h1, h2, h3⟩ => ⟨v, h1, isB_own h2, h3⟩
/-- What read answers. -/
theorem dread_no (A : Option Addr) (n c : Nat) (w : World) (h : n < 2) : Calls Tryd.prog 24 #[.slice A n c] w fun e w' => e = .returned (.tuple #[.int .i64 0, .int .i64 0, .int .i64 0, .bool false]) ∧ Below w.heap.size w w' := by
  have d1 : decide ((n : Int) < 2) = true := decide_eq_true (by omega)
  go_enter Tryd.func24, Tryd.ntmps24
  go_wp2
  refine bodyPost_ret (results_tmp4 rfl _ _ _) rfl ?_
  exact ⟨rfl, Below.refl _ _⟩
set_option maxHeartbeats 2000000 in
theorem dread_yes (A : Option Addr) (n c K C M : Nat) (l : List UInt8) (w : World) (hl : Lies w A (l.map bv)) (hn : l.length = n) (h2 : 2 ≤ n) (hb : n ≤ 1000000)
    (hK : dlook l = ((K : Int), (C : Int), (M : Int), l.drop 2, 0)) : Calls Tryd.prog 24 #[.slice A n c] w fun e w' => e = .returned (.tuple #[.int .i64 (K : Int), .int .i64 (C : Int), .int .i64 (M : Int), .bool true]) ∧ Below w.heap.size w w' := by
  have d1 : decide ((n : Int) < 2) = false := decide_eq_false (by omega)
  have hl2 : 2 ≤ l.length := by omega
  obtain ⟨ad, rfl, _, hcell0⟩ := hl.cell (k := 0) (by rw [List.length_map]; omega)
  obtain ⟨_, hAd, _, hcell1⟩ := hl.cell (k := 1) (by rw [List.length_map]; omega)
  injection hAd with hAd
  subst hAd
  obtain ⟨x, hx⟩ : ∃ x : Nat, x = l[0].toNat := ⟨_, rfl⟩
  obtain ⟨y, hy⟩ : ∃ y : Nat, y = l[1].toNat := ⟨_, rfl⟩
  have hx8 : x < 256 := by rw [hx]; exact UInt8.toNat_lt _
  have hy8 : y < 256 := by rw [hy]; exact UInt8.toNat_lt _
  have hc0 : w.cell? ad = some (.int .u8 (x : Int)) := by
    have e : ad.add 0 = ad := by simp [Addr.add]
    rw [e] at hcell0
    rw [hcell0, List.getElem_map, hx]; rfl
  have hc1 : w.cell? ⟨ad.block, ad.off + 1, none⟩ = some (.int .u8 (y : Int)) := by
    have e : ad.add 1 = ⟨ad.block, ad.off + 1, none⟩ := by simp [Addr.add]
    rw [e] at hcell1
    rw [hcell1, List.getElem_map, hy]; rfl
  obtain ⟨X, hX⟩ : ∃ X, X = 256 * x + y := ⟨_, rfl⟩
  rw [dlook_long hl2 (show X = 256 * l[0].toNat + l[1].toNat by rw [hX, hx, hy])] at hK
  injection hK with hK1 hK
  injection hK with hK2 hK
  injection hK with hK3 _
  have k1 : X / 16384 = K := by omega
  have k2 : X / 512 % 32 = C := by omega
  have k3 : X % 512 + 1 = M := by omega
  obtain ⟨Y, hY⟩ : ∃ Y, Y = 256 * x := ⟨_, rfl⟩
  obtain ⟨Q, hQ⟩ : ∃ Q, Q = X / 512 := ⟨_, rfl⟩
  obtain ⟨P, hP⟩ : ∃ P, P = X % 512 := ⟨_, rfl⟩
  have v1 : IntKind.i64.wrap (x : Int) = (x : Int) := by rw [IntKind.wrap_i64]; omega
  have v2 : IntKind.i64.wrap (y : Int) = (y : Int) := by rw [IntKind.wrap_i64]; omega
  have s1 : IntKind.i64.wrap ((x : Int) * 2 ^ 8) = (Y : Int) := by rw [IntKind.wrap_i64]; omega
  have s1' : (x : Int) * 256 = (Y : Int) := by omega
  have o1 : bits .or .i64 (Y : Int) (y : Int) = (X : Int) := by rw [hX, ← hY]; exact or_i64 8 Y y (by omega) (by omega) (by omega)
  have q1 : (X : Int) / 2 ^ 14 = (K : Int) := by omega
  have q1' : (X : Int) / 16384 = (K : Int) := by omega
  have q2 : (X : Int) / 2 ^ 9 = (Q : Int) := by omega
  have q2' : (X : Int) / 512 = (Q : Int) := by omega
  have a1 : bits .and .i64 (Q : Int) 31 = (C : Int) := by rw [i64_and31_mod]; omega
  have a2 : bits .and .i64 (X : Int) 511 = (P : Int) := by
    have h := i64_mask (X : Int) 9 (by omega)
    rw [show ((2 ^ 9 - 1 : Nat) : Int) = 511 from rfl, show ((2 ^ 9 : Nat) : Int) = 512 from rfl] at h
    rw [h]; omega
  have p1 : (P : Int) + 1 = (M : Int) := by omega
  have hn0 : (0 : Int) < (n : Int) := by omega
  have hn1 : (1 : Int) < (n : Int) := by omega
  have hM : M ≤ 512 := by omega
  clear hX hx hy hY hQ hP k1 k2 k3 hK1 hK2 hK3 hl hn hl2 hcell0 hcell1
  go_enter Tryd.func24, Tryd.ntmps24
  go_wp2
  go_quiet (fail)
  go_wp2
  refine bodyPost_ret (results_tmp4 rfl _ _ _) rfl ?_
  exact ⟨rfl, below_drewN (Below.refl _ _) nq⟩
/-- Any bytes' head, or none. -/
theorem dlook_or (l : List UInt8) : (l.length < 2 ∧ dlook l = (0, 0, 0, [], 2)) ∨ (2 ≤ l.length ∧ ∃ K C M : Nat, K ≤ 3 ∧ C ≤ 31 ∧ 1 ≤ M ∧ M ≤ 512 ∧ dlook l = ((K : Int), (C : Int), (M : Int), l.drop 2, 0)) := by
  by_cases h : l.length < 2
  · exact .inl ⟨h, dlook_short h⟩
  · have h2 : 2 ≤ l.length := by omega
    have hx : l[0].toNat < 256 := UInt8.toNat_lt _
    have hy : l[1].toNat < 256 := UInt8.toNat_lt _
    exact .inr ⟨h2, _, _, _, by omega, by omega, by omega, by omega, dlook_long h2 rfl⟩
set_option maxHeartbeats 2000000 in
theorem dlook_any (l : List UInt8) (v : Value) (w : World) (hv : IsB l v w) (hb : l.length ≤ 1000000) : Calls Tryd.prog 9 #[v] w (RetK w (dlook l)) := by
  obtain ⟨A, c, rfl, hA, hnc, hcm, hl⟩ := hv
  obtain ⟨n, hn⟩ : ∃ n, n = l.length := ⟨_, rfl⟩
  rw [← hn] at hA hnc hb ⊢
  have hci : (c : Int) ≤ 9223372036854775807 := by unfold maxLen at hcm; omega
  rcases dlook_or l with ⟨h2, hd⟩ | ⟨h2, K, C, M, hK, hC, hM1, hM, hd⟩
  · have HR := Lib.hid (dread_no A n c w (by omega))
    have hE := Lib.hid hd
    clear hd hl hn hA
    go_enter Tryd.func9, Tryd.ntmps9
    go_wp2_with fail
    refine HR.out.mono ?_
    rintro e w1 ⟨rfl, hb1⟩
    go_wp2
    refine bodyPost_ret (results_tmp5 rfl _ _ _) rfl ?_
    rw [hE.out]
    exact ⟨_, rfl, isB_nil _, hb1⟩
  · rw [← hn] at h2
    have HR := Lib.hid (dread_yes A n c K C M l w hl hn.symm h2 hb hd)
    have hE := Lib.hid hd
    obtain ⟨N, hN⟩ : ∃ N, N = n - 2 := ⟨_, rfl⟩
    have HF := Lib.hid fun (W : World) (h : Below w.heap.size w W) => from_named (P := Tryd.prog) elemB (k := 2) (by omega) hnc hcm hn.symm (hl.below h) hA
    rw [show ((2 : Nat) : Int) = 2 from rfl] at HF
    have HPM := Lib.hid (show ((l.drop 2).map bv).length = N by rw [List.length_map, List.length_drop]; omega)
    have HL := Lib.hid (show (l.drop 2).length = N by rw [List.length_drop]; omega)
    have hN6 : N ≤ 1000000 := by omega
    clear hd hl hn hA hN
    go_enter Tryd.func9, Tryd.ntmps9
    go_wp2_with fail
    refine HR.out.mono ?_
    rintro e w1 ⟨rfl, hb1⟩
    obtain ⟨v3, hv3, A3, c3, e3, hA3, _, _, hl3⟩ := HF.out w1 hb1
    rw [HL.out] at e3 hA3
    subst e3
    have HB1 := Lib.hid hb1
    clear hb1
    go_wp2_with (first | (refine wpList_slicedL rfl _ _ _ rfl _ (hv3 _) ?_) | (at_builtin; refine wpList_join elemB rfl _ _ rfl w1.heap.size _ _ _ _ _ _ ((l.drop 2).map bv) w1 rfl rfl hA3 HPM.out hl3 (bv_one _) (World.ownsRow_nil _ _ _ _) (Below.refl _ _) (Nat.le_refl _) (by omega) (by omega) ?_))
    intro v5 w5 hown5 hb5 _ _
    rw [← List.map_drop] at hown5
    have HI5 := Lib.hid (show IsB (l.drop 2) v5 w5 from isB_own hown5)
    have HB5 := Lib.hid (below_then HB1.out hb5)
    clear hown5 hb5
    go_wp2
    refine bodyPost_ret (results_tmp5 rfl _ _ _) rfl ?_
    rw [hE.out]
    exact ⟨_, rfl, HI5.out, HB5.out⟩
/-- A row that is filled from the front with what a function makes of others. -/
def FillRel {α β : Type} (f : α → Option β) (enc : β → Value) (z : Value) (t : TypeId) (l : List α) (w : World) (i : Value) (wr : World) : Prop :=
  ∃ (k : Nat) (acc : List β), k ≤ l.length ∧ i = .int .i64 (k : Int) ∧ omap f (l.take k) = some acc ∧ Row wr w.heap.size t (acc.map enc ++ List.replicate (l.length - k) z) ∧ Below w.heap.size w wr
theorem fill_step {β : Type} {enc : β → Value} {z : Value} {acc : List β} {y : β} {n k : Nat} (hk : k < n) (ha : acc.length = k) : (acc.map enc ++ List.replicate (n - k) z).set k (enc y) = (acc ++ [y]).map enc ++ List.replicate (n - (k + 1)) z := by
  have hl : (acc.map enc).length = k := by rw [List.length_map, ha]
  rw [List.set_append_right _ _ (by omega), hl, Nat.sub_self, show n - k = n - (k + 1) + 1 by omega, List.replicate_succ, List.set_cons_zero, List.map_append, List.append_assoc]
  rfl
set_option maxHeartbeats 2000000 in
set_option maxRecDepth 100000 in
theorem dplain_any (l : List Int) (v : Value) (s : Bool) (w : World) (hv : IsV iv l v w) (hl : ∀ x ∈ l, inInt x) (hb : l.length ≤ 1000000) : Calls Tryd.prog 14 #[v, .bool s] w (RetV uv w (dplainE l s)) := by
  obtain ⟨A, c, rfl, hA, hnc, hcm, hlw⟩ := hv
  obtain ⟨n, hn⟩ : ∃ n, n = l.length := ⟨_, rfl⟩
  rw [← hn] at hA hnc hb ⊢
  have HN := Lib.hid hn
  have HL := Lib.hid hlw
  have HI := Lib.hid hl
  clear hn hlw hl hcm hA
  go_enter Tryd.func14, Tryd.ntmps14
  go_wp2_with (refine wpList_make elemU rfl _ _ rfl _ _ _ _ n w w.heap.size rfl rfl rfl rfl (by omega) (by omega) (Below.refl _ _) (Nat.le_refl _) ?_)
  intro w1 hr1 hb1
  have hst : FillRel (eplain · s) uv (uv 0) 52 l w (.int .i64 0) w1 := ⟨0, [], by omega, rfl, rfl, by rw [Nat.sub_zero, ← HN.out]; simpa [iv, uv] using hr1, hb1⟩
  clear hr1 hb1
  go_wp2
  go_loopw [14] (FillRel (eplain · s) uv (uv 0) 52 l w) (fun i _ => n - (intOf i).toNat)
  case atStart => exact hst
  case round =>
    obtain ⟨k, acc, hk, rfl, hacc, hr, hbw⟩ := hrel
    have hz := hbw.size
    have hal : acc.length = k := by rw [omap_len hacc, List.length_take]; omega
    rw [← HN.out] at hr
    have HACC := Lib.hid hacc
    have HAL := Lib.hid hal
    have hk' : k ≤ n := by have := HN.out; omega
    clear hst hacc hal
    by_cases hlt : k < n
    · have hkl : k < l.length := by have := HN.out; omega
      have hlti : (k : Int) < (n : Int) := by omega
      obtain ⟨ad, rfl, _, hcell⟩ := (HL.out.below hbw).cell (k := k) (by rw [List.length_map]; exact hkl)
      obtain ⟨x, hx⟩ : ∃ x, x = l[k] := ⟨_, rfl⟩
      have hcx : wr.cell? (ad.add k) = some (.int .i64 (x)) := by rw [hcell, List.getElem_map, hx]; rfl
      have hxb : inInt x := by rw [hx]; exact HI.out _ (List.getElem_mem hkl)
      have HX := Lib.hid hx
      clear hx hcell
      have hfx := hr.free k
      have hgr := hr.lt
      have hcu : ∃ u, wr.cell? ⟨w.heap.size, k, none⟩ = some u := by
        rw [hr.cell]
        exact ⟨_, List.getElem?_eq_getElem (by rw [List.length_append, List.length_map, List.length_replicate]; have := HAL.out; omega)⟩
      obtain ⟨u0, hcu⟩ := hcu
      cases he : eplain x s with
      | none =>
        have hE : Hid (dplainE l s = ([], 1)) := Lib.hid (by
          have h1 : dplain l s = none := omap_none (x := x) (by rw [HX.out]; exact List.getElem_mem hkl) he
          unfold dplainE; rw [h1])
        cases s with
        | true => unfold eplain at he; rw [if_pos rfl] at he; cases he
        | false =>
          have hx0 : x < 0 := by
            unfold eplain at he
            rw [if_neg (by simp)] at he
            by_cases h : 0 ≤ x
            · rw [if_pos h] at he; cases he
            · omega
          have d3 : decide (x < 0) = true := decide_eq_true hx0
          clear he
          go_wp2
          go_ret2
          rw [hE.out]
          exact RetV.nil _ hbw
      | some u =>
        have hnext : Hid (omap (eplain · s) (l.take (k + 1)) = some (acc ++ [u])) := Lib.hid (omap_take hkl HACC.out (by rw [← HX.out]; exact he))
        have hset := hr.set_ k (uv u)
        rw [fill_step hlt HAL.out] at hset
        have HSET := Lib.hid hset
        have HB3 := Lib.hid (hbw.setCell (p := ⟨w.heap.size, k, none⟩) (Nat.le_refl _) (uv u))
        clear hset hr hbw hz
        cases s with
        | true =>
          have hu : vzig x = (u : Int) := by
            unfold eplain at he
            rw [if_pos rfl] at he
            injection he with he
            have := vzig_bd hxb.1 hxb.2
            omega
          have HZ := Lib.hid (zig_any x wr hxb.1 hxb.2)
          rw [hu] at HZ
          clear he hu
          go_wp2_with (go_at_call 27; refine HZ.out.mono ?_; rintro e w' ⟨rfl, rfl⟩)
          go_roundw
          case rel => exact ⟨k + 1, _, by have := HN.out; omega, by go_num, hnext.out, by rw [← HN.out]; exact HSET.out, HB3.out⟩
          case measure => simp [intOf]; omega
        | false =>
          have hx0 : 0 ≤ x ∧ x = (u : Int) := by
            unfold eplain at he
            rw [if_neg (by simp)] at he
            by_cases h : 0 ≤ x
            · rw [if_pos h] at he; injection he with he; omega
            · rw [if_neg h] at he; cases he
          obtain ⟨h0, hxu⟩ := hx0
          have hxu63 : x ≤ 9223372036854775807 := hxb.2
          have HX2 := HX.out
          subst hxu
          have d3 : decide ((u : Int) < 0) = false := decide_eq_false (by omega)
          have hw : IntKind.u64.wrap (u : Int) = (u : Int) := by rw [IntKind.wrap_u64]; omega
          clear he HX2 hxb hxu63
          go_wp2
          go_roundw
          case rel => exact ⟨k + 1, _, by have := HN.out; omega, by go_num, hnext.out, by rw [← HN.out]; exact HSET.out, HB3.out⟩
          case measure => simp [intOf]; omega
    · obtain rfl : k = n := by omega
      have hlti : ¬ (k : Int) < (k : Int) := by omega
      have hE : Hid (dplainE l s = (acc, 0)) := Lib.hid (by
        have h1 := HACC.out
        rw [List.take_of_length_le (by have := HN.out; omega)] at h1
        unfold dplainE dplain; rw [h1])
      rw [Nat.sub_self, List.replicate_zero, List.append_nil] at hr
      have HR := Lib.hid (isV_row hr HAL.out (by omega))
      go_wp2
      go_ret2
      rw [hE.out]
      exact ⟨_, rfl, HR.out, hbw⟩
set_option maxHeartbeats 2000000 in
set_option maxRecDepth 100000 in
theorem dmade_any (l : List Nat) (v : Value) (s : Bool) (w : World) (hv : IsV uv l v w) (hl : ∀ x ∈ l, x < 2 ^ 64) (hb : l.length ≤ 1000000) : Calls Tryd.prog 16 #[v, .bool s] w (RetV iv w (dmadeE l s)) := by
  obtain ⟨A, c, rfl, hA, hnc, hcm, hlw⟩ := hv
  obtain ⟨n, hn⟩ : ∃ n, n = l.length := ⟨_, rfl⟩
  rw [← hn] at hA hnc hb ⊢
  have HN := Lib.hid hn
  have HL := Lib.hid hlw
  have HI := Lib.hid hl
  clear hn hlw hl hcm hA
  go_enter Tryd.func16, Tryd.ntmps16
  go_wp2_with (refine wpList_make elemI rfl _ _ rfl _ _ _ _ n w w.heap.size rfl rfl rfl rfl (by omega) (by omega) (Below.refl _ _) (Nat.le_refl _) ?_)
  intro w1 hr1 hb1
  have hst : FillRel (emade · s) iv (iv 0) 3 l w (.int .i64 0) w1 := ⟨0, [], by omega, rfl, rfl, by rw [Nat.sub_zero, ← HN.out]; simpa [iv, uv] using hr1, hb1⟩
  clear hr1 hb1
  go_wp2
  go_loopw [14] (FillRel (emade · s) iv (iv 0) 3 l w) (fun i _ => n - (intOf i).toNat)
  case atStart => exact hst
  case round =>
    obtain ⟨k, acc, hk, rfl, hacc, hr, hbw⟩ := hrel
    have hz := hbw.size
    have hal : acc.length = k := by rw [omap_len hacc, List.length_take]; omega
    rw [← HN.out] at hr
    have HACC := Lib.hid hacc
    have HAL := Lib.hid hal
    have hk' : k ≤ n := by have := HN.out; omega
    clear hst hacc hal
    by_cases hlt : k < n
    · have hkl : k < l.length := by have := HN.out; omega
      have hlti : (k : Int) < (n : Int) := by omega
      obtain ⟨ad, rfl, _, hcell⟩ := (HL.out.below hbw).cell (k := k) (by rw [List.length_map]; exact hkl)
      obtain ⟨x, hx⟩ : ∃ x, x = l[k] := ⟨_, rfl⟩
      have hcx : wr.cell? (ad.add k) = some (.int .u64 (x : Int)) := by rw [hcell, List.getElem_map, hx]; rfl
      have hxb : x < 2 ^ 64 := by rw [hx]; exact HI.out _ (List.getElem_mem hkl)
      have HX := Lib.hid hx
      clear hx hcell
      have hfx := hr.free k
      have hgr := hr.lt
      have hcu : ∃ u, wr.cell? ⟨w.heap.size, k, none⟩ = some u := by
        rw [hr.cell]
        exact ⟨_, List.getElem?_eq_getElem (by rw [List.length_append, List.length_map, List.length_replicate]; have := HAL.out; omega)⟩
      obtain ⟨u0, hcu⟩ := hcu
      cases he : emade x s with
      | none =>
        have hE : Hid (dmadeE l s = ([], 2)) := Lib.hid (by
          have h1 : dmade l s = none := omap_none (x := x) (by rw [HX.out]; exact List.getElem_mem hkl) he
          unfold dmadeE; rw [h1])
        cases s with
        | true => unfold emade at he; rw [if_pos rfl] at he; cases he
        | false =>
          have hx0 : 9223372036854775808 ≤ (x : Int) := by
            unfold emade at he
            rw [if_neg (by simp)] at he
            by_cases h : x < 9223372036854775808
            · rw [if_pos h] at he; cases he
            · omega
          have d3 : decide ((9223372036854775807 : Int) < (x : Int)) = true := decide_eq_true (by omega)
          clear he hx0 hxb
          go_wp2
          go_ret2
          rw [hE.out]
          exact RetV.nil _ hbw
      | some u =>
        have hnext : Hid (omap (emade · s) (l.take (k + 1)) = some (acc ++ [u])) := Lib.hid (omap_take hkl HACC.out (by rw [← HX.out]; exact he))
        have hset := hr.set_ k (iv u)
        rw [fill_step hlt HAL.out] at hset
        have HSET := Lib.hid hset
        have HB3 := Lib.hid (hbw.setCell (p := ⟨w.heap.size, k, none⟩) (Nat.le_refl _) (iv u))
        clear hset hr hbw hz
        cases s with
        | true =>
          have hu : vzag (x : Int) = u := by
            unfold emade at he
            rw [if_pos rfl] at he
            injection he with he
          have HZ := Lib.hid (zag_any (x : Int) wr (by omega) (by omega))
          rw [hu] at HZ
          clear he hu hxb
          go_wp2_with (go_at_call 29; refine HZ.out.mono ?_; rintro e w' ⟨rfl, rfl⟩)
          go_roundw
          case rel => exact ⟨k + 1, _, by have := HN.out; omega, by go_num, hnext.out, by rw [← HN.out]; exact HSET.out, HB3.out⟩
          case measure => simp [intOf]; omega
        | false =>
          have hx0 : (x : Int) ≤ 9223372036854775807 ∧ u = (x : Int) := by
            unfold emade at he
            rw [if_neg (by simp)] at he
            by_cases h : x < 9223372036854775808
            · rw [if_pos h] at he; injection he with he; omega
            · rw [if_neg h] at he; cases he
          obtain ⟨h0, rfl⟩ := hx0
          have d3 : decide ((9223372036854775807 : Int) < (x : Int)) = false := decide_eq_false (by omega)
          have hw : IntKind.i64.wrap (x : Int) = (x : Int) := by rw [IntKind.wrap_i64]; omega
          clear he hxb h0
          go_wp2
          go_roundw
          case rel => exact ⟨k + 1, _, by have := HN.out; omega, by go_num, hnext.out, by rw [← HN.out]; exact HSET.out, HB3.out⟩
          case measure => simp [intOf]; omega
    · obtain rfl : k = n := by omega
      have hlti : ¬ (k : Int) < (k : Int) := by omega
      have hE : Hid (dmadeE l s = (acc, 0)) := Lib.hid (by
        have h1 := HACC.out
        rw [List.take_of_length_le (by have := HN.out; omega)] at h1
        unfold dmadeE dmade; rw [h1])
      rw [Nat.sub_self, List.replicate_zero, List.append_nil] at hr
      have HR := Lib.hid (isV_row hr HAL.out (by omega))
      go_wp2
      go_ret2
      rw [hE.out]
      exact ⟨_, rfl, HR.out, hbw⟩
end Go.Proofs.YtiapopaggpnceaaDoor
