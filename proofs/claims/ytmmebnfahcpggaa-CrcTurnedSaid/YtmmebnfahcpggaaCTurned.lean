/- The statement CrcTurned: for any bytes, any place and any two bytes the law answers true. No condition. -/
import Derived.Test.YtmmebnfahcpggaaCShown
import Derived.Test.YtmmebnfahcpggaaLaw
namespace Go.Proofs.Ytmmebnfahcpggaa
open Go.RowKit Go.ChangeShapes Go.WideShapes Go.ChangeAt

theorem copens_none {l : List UInt8} (h : copen l = none) : copens l = ([], 2) := by unfold copens; rw [h]
theorem set_split (l : List UInt8) {k : Nat} (h : k < l.length) (x : UInt8) : l.set k x = l.take k ++ x :: l.drop (k + 1) := List.set_eq_take_append_cons_drop.trans (if_pos h)
theorem self_split (l : List UInt8) {k : Nat} (h : k < l.length) : l = l.take k ++ l[k] :: l.drop (k + 1) := by
  rw [← List.drop_eq_getElem_cons h, List.take_append_drop]
theorem csum_one (l : List UInt8) {k : Nat} (h : k < l.length) {x : UInt8} (hx : l[k] ≠ x) : csum l ≠ csum (l.set k x) := by
  rw [set_split l h]
  conv => lhs; rw [self_split l h]
  exact csum_turned1 _ _ hx
theorem csum_two (l : List UInt8) {k : Nat} (h : k + 1 < l.length) {x y : UInt8} (hx : l[k] ≠ x) : csum l ≠ csum ((l.set k x).set (k + 1) y) := by
  have h1 : l = l.take k ++ l[k] :: l[k + 1] :: l.drop (k + 2) := by
    have e := self_split l (show k < l.length by omega)
    rw [List.drop_eq_getElem_cons h] at e
    exact e
  have hl : (l.take k).length = k := by rw [List.length_take]; omega
  have h2 : (l.set k x).set (k + 1) y = l.take k ++ x :: y :: l.drop (k + 2) := by
    conv => lhs; rw [h1]
    rw [List.set_append_right _ _ (by omega), hl, Nat.sub_self, List.set_cons_zero, List.set_append_right _ _ (by omega), hl, Nat.add_sub_cancel_left, List.set_cons_succ, List.set_cons_zero]
  rw [h2]
  conv => lhs; rw [h1]
  exact csum_turned2 _ _ hx _ _
theorem cseal_get (l : List UInt8) {k : Nat} (h : k < l.length) (h' : k < (cseal l).length) : (cseal l)[k] = l[k] := by
  unfold cseal
  exact List.getElem_append_left h
theorem turned_one (l : List UInt8) {k : Nat} (h : k < (cseal l).length) {x : UInt8} (hx : (cseal l)[k] ≠ x) : copens ((cseal l).set k x) = ([], 2) := by
  refine copens_none ?_
  by_cases hk : k < l.length
  · rw [cseal_get l hk] at hx
    rw [cseal, List.set_append_left _ _ hk]
    exact copen_other (csum_one l hk hx)
  · rw [cseal, List.set_append_right _ _ (by omega)]
    rw [cseal_len] at h
    refine copen_tail (by rw [List.length_set, cle_len]) ?_
    intro he
    have hc : k - l.length < (cle (csum l)).length := by rw [cle_len]; omega
    have h1 : ((cle (csum l)).set (k - l.length) x)[k - l.length]'(by rw [List.length_set]; exact hc) = x := List.getElem_set_self _
    have h2 : (cseal l)[k]'(by rw [cseal_len]; exact h) = (cle (csum l))[k - l.length] := by
      unfold cseal
      exact List.getElem_append_right (by omega)
    apply hx
    rw [h2, ← h1]
    congr 1
    exact he.symm
theorem turned_two (l : List UInt8) {k : Nat} (h : k + 1 < l.length) (h' : k < (cseal l).length) {x y : UInt8} (hx : (cseal l)[k] ≠ x) : copens (((cseal l).set k x).set (k + 1) y) = ([], 2) := by
  refine copens_none ?_
  rw [cseal_get l (by omega)] at hx
  rw [cseal, List.set_append_left _ _ (by omega), List.set_append_left _ _ (by rw [List.length_set]; exact h)]
  exact copen_other (csum_two l h hx)
theorem turn_byte (x : UInt8) (b : Nat) (h : b < 256) (h0 : b ≠ 0) : x ≠ UInt8.ofNat (x.toNat ^^^ b) := by
  intro he
  have h1 := congrArg UInt8.toNat he
  have h2 := x.toNat_lt
  have h3 : x.toNat ^^^ b < 256 := Nat.xor_lt_two_pow (n := 8) h2 h
  have h4 : x.toNat = x.toNat ^^^ b := by
    rw [UInt8.toNat_ofNat'] at h1
    omega
  apply h0
  have h5 : x.toNat ^^^ x.toNat = x.toNat ^^^ (x.toNat ^^^ b) := by rw [← h4]
  rw [Nat.xor_self, ← Nat.xor_assoc, Nat.xor_self, Nat.zero_xor] at h5
  exact h5.symm
/-- What is known of the row of the seal: the first N cells are the bytes s. -/
structure SRow (gs N cap : Nat) (s : List UInt8) (w : World) : Prop where
  ex : ∃ cs : List Value, Row w gs 5 cs ∧ cs.take N = s.map bv
  len : s.length = N
  nc : N ≤ cap
  cm : cap ≤ maxLen
theorem SRow.lt {gs N cap : Nat} {s : List UInt8} {w : World} (h : SRow gs N cap s w) : gs < w.heap.size := h.ex.elim fun _ h => h.1.lt
theorem SRow.below {gs N cap : Nat} {s : List UInt8} {w w' : World} (h : SRow gs N cap s w) (hb : Below w.heap.size w w') : SRow gs N cap s w' :=
  ⟨h.ex.elim fun cs h => ⟨cs, h.1.below hb h.1.lt, h.2⟩, h.len, h.nc, h.cm⟩
theorem SRow.drew {gs N cap : Nat} {s : List UInt8} {w : World} (h : SRow gs N cap s w) : SRow gs N cap s w.drew := ⟨h.ex, h.len, h.nc, h.cm⟩
theorem SRow.cell {gs N cap : Nat} {s : List UInt8} {w : World} (h : SRow gs N cap s w) {k : Nat} (hk : k < N) (hk' : k < s.length) : w.cell? ⟨gs, k, none⟩ = some (.int .u8 ((s[k].toNat : Nat) : Int)) := by
  obtain ⟨cs, h1, h2⟩ := h.ex
  rw [h1.cell]
  have h3 : (cs.take N)[k]? = (s.map bv)[k]? := by rw [h2]
  rw [List.getElem?_take, if_pos hk, List.getElem?_map, List.getElem?_eq_getElem hk'] at h3
  exact h3
theorem SRow.free {gs N cap : Nat} {s : List UInt8} {w : World} (h : SRow gs N cap s w) (k : Nat) : w.frozen? ⟨gs, k, none⟩ = false := h.ex.elim fun _ h => h.1.free k
theorem SRow.set_ {gs N cap : Nat} {s : List UInt8} {w : World} (h : SRow gs N cap s w) (k c : Nat) (hc : c < 256) : SRow gs N cap (s.set k (UInt8.ofNat c)) (w.setCell ⟨gs, k, none⟩ (.int .u8 (c : Int))) := by
  obtain ⟨cs, h1, h2⟩ := h.ex
  refine ⟨⟨_, h1.set_ k (.int .u8 (c : Int)), ?_⟩, by rw [List.length_set]; exact h.len, h.nc, h.cm⟩
  rw [List.take_set, h2, List.map_set]
  congr 1
  unfold bv
  congr 1
  simp only [UInt8.toNat_ofNat', Nat.reducePow]
  omega
theorem SRow.isB {gs N cap : Nat} {s : List UInt8} {w : World} (h : SRow gs N cap s w) : IsB s (.slice (some ⟨gs, 0, none⟩) N cap) w := by
  obtain ⟨cs, h1, h2⟩ := h.ex
  refine ⟨_, _, by rw [h.len], by simp, by rw [h.len]; exact h.nc, h.cm, ?_⟩
  have := (h1.lies 0).take N
  rw [List.drop_zero, h2] at this
  exact this
theorem srow_own {w : World} {s : List UInt8} {v : Value} {base : Nat} (h : w.ownsRow base 5 1 v s.length (s.map bv)) (h0 : 0 < s.length) : ∃ gs cap, v = .slice (some ⟨gs, 0, none⟩) s.length cap ∧ base ≤ gs ∧ SRow gs s.length cap s w := by
  rcases h.2 with ⟨_, h1⟩ | ⟨g, cap, cur, hv, hb, hg, hnc, hcm, _, ht⟩
  · omega
  · refine ⟨g, cap, hv, hb, ⟨⟨cur.toList, ?_, by rw [Nat.mul_one] at ht; exact ht⟩, rfl, hnc, hcm⟩⟩
    unfold Row
    simpa using hg
theorem xor_u8 (x b : Nat) (hx : x < 256) (hb : b < 256) : bits .xor .u8 (x : Int) (b : Int) = ((x ^^^ b : Nat) : Int) := u8_xor_nat x b hx hb
set_option maxHeartbeats 4000000 in
set_option maxRecDepth 100000 in
theorem CrcTurned_walk (w : World) (A0 : Option Addr) (n0 c0 : Nat) (l0 : List UInt8) (hA0 : A0 = none → n0 = 0) (hn0 : l0.length = n0) (hc0 : n0 ≤ c0) (hm0 : c0 ≤ maxLen) (hl0 : Lies w A0 (l0.map bv)) (a : Int) (_a0 : -9223372036854775808 ≤ a) (_a1 : a ≤ 9223372036854775807)
    (y0 y1 : Int) (hy0 : 0 ≤ y0 ∧ y0 < 256) (hy1 : 0 ≤ y1 ∧ y1 < 256) :
    Calls Try.prog 6 #[.slice A0 n0 c0, .int .i64 a, .agg #[.int .u8 y0, .int .u8 y1]] w fun e w' => e = .returned (.bool true) ∧ Below w.heap.size w w' := by
  have hI0 : IsB l0 (.slice A0 n0 c0) w := ⟨A0, c0, by rw [hn0], fun h => by rw [hn0]; exact hA0 h, by rw [hn0]; exact hc0, hm0, hl0⟩
  obtain ⟨v0, hv0⟩ : ∃ v0, v0 = Value.slice A0 n0 c0 := ⟨_, rfl⟩
  rw [← hv0] at hI0 ⊢
  clear hv0 hA0 hn0 hc0 hm0 hl0
  have HI0 := Lib.hid hI0
  clear hI0
  obtain ⟨b0, rfl⟩ := Int.eq_ofNat_of_zero_le hy0.1
  obtain ⟨b1, rfl⟩ := Int.eq_ofNat_of_zero_le hy1.1
  have hb08 : b0 < 256 := by omega
  have hb18 : b1 < 256 := by omega
  clear hy0 hy1
  have hr0 : Row (w.alloc (.cells #[.int .u8 (b0 : Int), .int .u8 (b1 : Int)] 37)) w.heap.size 37 [.int .u8 (b0 : Int), .int .u8 (b1 : Int)] := heap_alloc_new w _
  have hb0 : Below w.heap.size w (w.alloc (.cells #[.int .u8 (b0 : Int), .int .u8 (b1 : Int)] 37)) := (Below.refl _ _).alloc (Nat.le_refl _) _
  have HR0 := Lib.hid hr0
  have HB0 := Lib.hid hb0
  have HJI := Lib.hid (HI0.out.below hb0)
  clear hr0 hb0
  go_enter Try.func6, Try.ntmps6
  go_wp2_with fail
  refine (shown_any _).mono ?_
  rintro e w1 ⟨rfl, hb1⟩
  have HB1 := Lib.hid (below_then HB0.out hb1)
  have HR1 := Lib.hid (HR0.out.below hb1 HR0.out.lt)
  have HJ0 := Lib.hid (HJI.out.below hb1)
  clear hb1
  go_wp2_with fail
  refine (few_is HJ0.out).mono ?_
  rintro e w' ⟨⟨u, rfl, hu⟩, rfl⟩
  obtain ⟨l, hl⟩ : ∃ l, l = l0.take 400 := ⟨_, rfl⟩
  rw [← hl] at hu
  have HL : Hid (l.length ≤ 1000) := Lib.hid (by rw [hl, List.length_take]; omega)
  have HU1 := Lib.hid hu
  clear hu hl
  go_wp2_with fail
  refine (new_any _).mono ?_
  rintro e w2 ⟨rfl, hb2⟩
  go_wp2_with (refine wpList_allocArr tabT rfl rfl ?_)
  intro w3 hr3 hb3
  have hb13 := below_then hb2 hb3
  obtain ⟨g, hg⟩ : ∃ g, g = w2.heap.size := ⟨_, rfl⟩
  have hgw : w1.heap.size ≤ g := by rw [hg]; exact hb2.size
  rw [← hg] at hr3 ⊢
  clear hb2 hb3 hg
  go_wp2_with (refine wpList_storeArr tabT rfl _ _ rfl g _ _ ctab rfl rfl hr3 ctab_len (zeroRow_len _ _) ctab_one w1 w1.heap.size hb13 hgw ?_)
  intro w4 hr4 hb4 _
  have HT : Hid (Tabl g w4) := Lib.hid ⟨_, hr4⟩
  have HBn := Lib.hid (below_then HB1.out hb4)
  have HU4 := Lib.hid (HU1.out.below hb4)
  have HR4 := Lib.hid (HR1.out.below hb4 HR1.out.lt)
  clear hr3 hr4 hb13 hb4 hgw
  go_wp2_with fail
  refine (seal_own g l u w4 HT.out HU4.out (by have := HL.out; omega)).mono ?_
  rintro e w5 ⟨s5, rfl, hown5, hb5⟩
  obtain ⟨s, hs⟩ : ∃ s, s = cseal l := ⟨_, rfl⟩
  rw [← hs] at hown5
  have hsl : s.length = l.length + 4 := by rw [hs, cseal_len]
  obtain ⟨gs, cap, hv5, hgs, hS5⟩ := srow_own hown5 (by omega)
  obtain ⟨N, hN⟩ : ∃ N, N = s.length := ⟨_, rfl⟩
  rw [← hN] at hv5 hS5
  have HT5 := Lib.hid (HT.out.below hb5)
  have HR5 := Lib.hid (HR4.out.below hb5 HR4.out.lt)
  have HB5 := Lib.hid (below_then HBn.out hb5)
  have hgw5 : w.heap.size ≤ gs := Nat.le_trans HBn.out.size hgs
  have hgg : g ≠ gs := by have := HT.out.lt; omega
  have hgr : w.heap.size ≠ gs := by have := HR4.out.lt; omega
  obtain ⟨A2, c2, hv2, _, _, _, _⟩ := HU4.out.below hb5
  obtain ⟨n2, hn2⟩ : ∃ n2, n2 = l.length := ⟨_, rfl⟩
  rw [← hn2] at hv2
  have hn2N : n2 + 4 ≤ N := by omega
  have hN4 : N ≤ n2 + 4 := by omega
  have hn2b : n2 ≤ 1000 := by rw [hn2]; exact HL.out
  subst hv2 hv5
  have HS := Lib.hid hs
  have HSN := Lib.hid hN
  have HN2 := Lib.hid hn2
  have HS5 := Lib.hid hS5
  clear hown5 hb5 hs hN hn2 hsl hS5
  have hcb0 : w5.cell? ⟨w.heap.size, 0, none⟩ = some (.int .u8 (b0 : Int)) := HR5.out.cell 0
  have hcb1 : w5.cell? ⟨w.heap.size, 1, none⟩ = some (.int .u8 (b1 : Int)) := HR5.out.cell 1
  by_cases ha : a < 0
  · have d1 : decide (a < 0) = true := decide_eq_true ha
    go_wp2
    go_ret
    exact ⟨rfl, HB5.out⟩
  · have d1 : decide (a < 0) = false := decide_eq_false ha
    obtain ⟨k, rfl⟩ := Int.eq_ofNat_of_zero_le (show 0 ≤ a by omega)
    by_cases hk : N ≤ k
    · go_wp2
      go_ret
      exact ⟨rfl, HB5.out⟩
    · have hkN : k < N := by omega
      have d2 : decide (N ≤ k) = false := decide_eq_false hk
      by_cases hz : b0 = 0
      · subst hz
        go_wp2
        go_ret
        exact ⟨rfl, HB5.out⟩
      · have hksl : k < s.length := by have := HSN.out; omega
        obtain ⟨x, hx⟩ : ∃ x : Nat, x = s[k].toNat := ⟨_, rfl⟩
        have hx8 : x < 256 := by rw [hx]; exact UInt8.toNat_lt _
        obtain ⟨z, hz'⟩ : ∃ z : Nat, z = x ^^^ b0 := ⟨_, rfl⟩
        have hz8 : z < 256 := by rw [hz']; exact Nat.xor_lt_two_pow (n := 8) hx8 hb08
        have hne : s[k] ≠ UInt8.ofNat z := by rw [hz', hx]; exact turn_byte _ _ hb08 hz
        have HNE := Lib.hid hne
        have hxor := xor_u8 x b0 hx8 hb08
        rw [← hz'] at hxor
        have hcx : w5.cell? ⟨gs, k, none⟩ = some (.int .u8 (x : Int)) := by rw [HS5.out.cell hkN hksl, hx]
        have hf := HS5.out.free k
        have d3 : ((b0 : Int) == 0) = false := by simpa using hz
        have hkNi : (k : Int) < (N : Int) := by omega
        clear hx hz' hne hz
        go_wp2
        refine wp_region_tail 10 (by kernel_rfl) (by kernel_rfl) ?_
        simp only [List.take_succ_cons, List.take_zero, List.drop_succ_cons, List.drop_zero]
        repeat still_step
        refine wpStill_nil ?_
        have hS6 := (HS5.out.set_ k z hz8).drew
        have hr6 : Row (w5.setCell ⟨gs, k, none⟩ (.int .u8 (z : Int))).drew w.heap.size 37 [.int .u8 (b0 : Int), .int .u8 (b1 : Int)] := Row.drew (Row.far HR5.out hgr _)
        have hT6 : Tabl g (w5.setCell ⟨gs, k, none⟩ (.int .u8 (z : Int))).drew := HT5.out.elim fun t h => ⟨t, Row.drew (Row.far h hgg _)⟩
        have hb6 : Below w.heap.size w (w5.setCell ⟨gs, k, none⟩ (.int .u8 (z : Int))).drew := (HB5.out.setCell hgw5 _).drew
        have HS6 := Lib.hid hS6
        have HR6 := Lib.hid hr6
        have HT6 := Lib.hid hT6
        have HB6 := Lib.hid hb6
        clear hS6 hr6 hT6 hb6 hcb0 hcb1
        by_cases hk1 : k + 1 < n2
        · have hk1l : k + 1 < l.length := by have := HN2.out; omega
          obtain ⟨q, hq⟩ : ∃ q, q = k + 1 := ⟨_, rfl⟩
          have hkq : (k : Int) + 1 = (q : Int) := by omega
          have hkw : IntKind.i64.wrap ((k : Int) + 1) = (q : Int) := by rw [hkq]; exact IntWalk.i64_in _ (by omega)
          have hkw2 : IntKind.i64.wrap (q : Int) = (q : Int) := IntWalk.i64_in _ (by omega)
          have hqn : (q : Int) < (n2 : Int) := by omega
          have hqN : q < N := by omega
          have hqNi : (q : Int) < (N : Int) := by omega
          have hqn2 : q < n2 := by omega
          have HQ := Lib.hid hq
          clear hq
          go_wp2
          generalize (w5.setCell ⟨gs, k, none⟩ (Value.int IntKind.u8 (z : Int))).drew = w6 at *
          have hql : q < (s.set k (UInt8.ofNat z)).length := by rw [HS6.out.len]; exact hqN
          obtain ⟨x2, hx2⟩ : ∃ x2 : Nat, x2 = ((s.set k (UInt8.ofNat z))[q]).toNat := ⟨_, rfl⟩
          have hx28 : x2 < 256 := by rw [hx2]; exact UInt8.toNat_lt _
          obtain ⟨z2, hz2⟩ : ∃ z2 : Nat, z2 = x2 ^^^ b1 := ⟨_, rfl⟩
          have hz28 : z2 < 256 := by rw [hz2]; exact Nat.xor_lt_two_pow (n := 8) hx28 hb18
          have hxor2 := xor_u8 x2 b1 hx28 hb18
          rw [← hz2] at hxor2
          have hcx2 : w6.cell? ⟨gs, q, none⟩ = some (.int .u8 (x2 : Int)) := by rw [HS6.out.cell hqN hql, hx2]
          have hf2 := HS6.out.free q
          have hcb1 : w6.cell? ⟨w.heap.size, 1, none⟩ = some (.int .u8 (b1 : Int)) := HR6.out.cell 1
          clear hx2 hz2 hcx
          refine wp_region_tail 12 (by kernel_rfl) (by kernel_rfl) ?_
          simp only [List.take_succ_cons, List.take_zero, List.drop_succ_cons, List.drop_zero]
          repeat still_step
          refine wpStill_nil ?_
          have hS7 := (HS6.out.set_ q z2 hz28).drew
          have hT7 : Tabl g (w6.setCell ⟨gs, q, none⟩ (.int .u8 (z2 : Int))).drew := HT6.out.elim fun t h => ⟨t, Row.drew (Row.far h hgg _)⟩
          have hb7 : Below w.heap.size w (w6.setCell ⟨gs, q, none⟩ (.int .u8 (z2 : Int))).drew := (HB6.out.setCell hgw5 _).drew
          have hO := open_any g _ _ _ hT7 hS7.isB (by rw [List.length_set, List.length_set]; have := HSN.out; omega)
          have hcl : copens ((s.set k (UInt8.ofNat z)).set q (UInt8.ofNat z2)) = ([], 2) := by
            have h1 := HNE.out
            have h2 := HS.out
            subst h2
            rw [HQ.out]
            exact turned_two l hk1l hksl h1
          rw [hcl] at hO
          have HO := Lib.hid hO
          have HB7 := Lib.hid hb7
          clear hS7 hT7 hb7 hO hcl
          go_wp2_with fail
          refine HO.out.mono ?_
          rintro e w8 ⟨x8, rfl, hx8, hb8⟩
          have HB8 := Lib.hid (below_then HB7.out hb8)
          clear hx8 hb8
          go_wp2
          go_ret
          exact ⟨rfl, HB8.out⟩
        · have hk1i : ¬ (k : Int) + 1 < (n2 : Int) := by omega
          have hO := open_any g _ _ _ HT6.out HS6.out.isB (by rw [List.length_set]; have := HSN.out; omega)
          have hcl : copens (s.set k (UInt8.ofNat z)) = ([], 2) := by
            have h1 := HNE.out
            have h2 := HS.out
            subst h2
            exact turned_one l hksl h1
          rw [hcl] at hO
          have HO := Lib.hid hO
          clear hO hcl
          go_wp2_with fail
          refine HO.out.mono ?_
          rintro e w8 ⟨x8, rfl, hx8, hb8⟩
          have HB8 := Lib.hid (below_then HB6.out hb8)
          clear hx8 hb8
          go_wp2
          go_ret
          exact ⟨rfl, HB8.out⟩

set_option maxRecDepth 100000 in
theorem CrcTurned_lifted (os : Os) (started : os.Started) (H : Type) (enc : TypeId × Value → H) :
    ReturnsInHanded {} Try.checked os 6 .any (Rows.crcTurnedSpec.pre6 enc Try.prog Try.f6 Rows.crcTurnedRow.domain false) (Rows.crcTurnedSpec.post enc Try.prog Try.f6 false true false false) := by
  refine returnsInHanded_of_change (C := Try.checked) own started (by kernel_rfl) Try.func6
    (ChangeSpec.witness6 (enc := enc) (C := Try.checked) false ⟨#[], #[.slice none 0 0, .int .i64 0, .agg #[.int .u8 0, .int .u8 0]], []⟩ 8 (by kernel_rfl) (by kernel_rfl) (by kernel_rfl) (by kernel_rfl)) ?_
  intro W base args ds gs before hval0 hW hcnd _
  have hval : ∀ (j : Nat) t v, Try.f6.params[j]? = some t → args[j]? = some v → Value.okWide Try.prog W .any base t v := hval0
  have hW' := hW
  obtain ⟨p, q, hT0, hV, rfl, hfz, hnd⟩ := hW
  have hA : DataW.TrodAll enc Try.prog W 0 (fun _ => true) true Try.f6.params.toList args.toList ds p := hT0
  rw [Try.params6] at hA hval
  obtain ⟨v0, vs0, d0, ds0, p0, q0, hargs, rfl, rfl, h0, r0⟩ := trodAll_cons hA
  obtain ⟨v1, vs1, d1, ds1, p1, q1, rfl, rfl, rfl, h1, r1⟩ := trodAll_cons r0
  obtain ⟨v2, vs2, d2, ds2, p2, q2, rfl, rfl, rfl, h2, r2⟩ := trodAll_cons r1
  obtain ⟨rfl, rfl, rfl⟩ := trodAll_nil r2
  obtain rfl : args = #[v0, v1, v2] := by cases args; simp_all
  obtain ⟨rfl, rfl⟩ := trodVars_none hV
  have hlt0 : ∀ x ∈ p0, x.block < W.heap.size := fun x hx => hW'.lt x (by simp [hx])
  obtain ⟨A0, n0, c0, l0, rfl, hA0, hn0, hc0, hm0, hl0⟩ := open_bytes Try.underlying22 Try.underlying5 (by kernel_rfl) (hval 0 22 v0 rfl rfl) h0 hlt0
  obtain ⟨a1, rfl, rfl, rfl, w1⟩ := open_int Try.underlying3 (hval 1 3 v1 rfl rfl) h1
  obtain ⟨a2, b2, rfl, wa2, wb2⟩ := open_arr2 Try.underlying37 Try.underlying5 (by kernel_rfl) (by kernel_rfl) (hval 2 37 v2 rfl rfl) h2
  clear hT0 hval0
  refine (CrcTurned_walk W A0 n0 c0 l0 hA0 hn0 hc0 hm0 hl0 a1 (wf_i64 w1).1 (wf_i64 w1).2 a2 b2 (wf_u8 wa2) (wf_u8 wb2)).mono fun e W' ⟨he, hb⟩ => ?_
  subst he
  exact ⟨_, rfl, law_post laidOut Try.underlying4 (by kernel_rfl) (by kernel_rfl) rfl hW' rfl hb⟩

theorem CrcTurned_over : Rows.crcTurnedRow.holds Try.pinned (OpenSpec.ofChange Rows.crcTurnedSpec) :=
  OpenClaim.holds_of_wide 6 Try.f6 rfl rfl rfl rfl rfl rfl rfl ⟨rfl, rfl, rfl, rfl, rfl⟩ rfl rfl rfl rfl rfl (by kernel_rfl) Try.func6 (by kernel_rfl)
    (of_decide_eq_true (by kernel_rfl)) (by unfold Func.isWrapper; first | (rw [if_pos (by decide +kernel)]; kernel_rfl) | (rw [if_neg (by decide +kernel)]; exact ⟨rfl, rfl⟩))
    (fun os started H enc _ => CrcTurned_lifted os started H enc)

theorem CrcTurned_holds : Rows.CrcTurnedSaid := CrcTurned_over
#print axioms CrcTurned_holds
end Go.Proofs.Ytmmebnfahcpggaa
