
/- The contract of what taker hands out, of taker itself, and of Unpack. -/

import Derived.Test.YtiapopaggpnceaaDoorBPut

namespace Go.Proofs.YtiapopaggpnceaaDoor

open Go.RowKit

/-- What a taker holds: the slice of the bytes in block b, the bit that comes next in block a; the bytes lie in older memory. -/
structure Taker (z b a m c t : Nat) (A : Option Addr) (l : List UInt8) (w : World) : Prop where
  zb : z ≤ b
  ba : b < a
  len : l.length = m
  old : ∃ w0, Lies w0 A (l.map bv) ∧ w0.heap.size ≤ z ∧ Below w0.heap.size w0 w
  box : Row w b 23 [.slice A m c]
  pos : Row w a 3 [.int .i64 (t : Int)]
theorem Taker.drewN {z b a m c t : Nat} {A : Option Addr} {l : List UInt8} {w : World} (h : Taker z b a m c t A l w) (n : Nat) : Taker z b a m c t A l (w.drewN n) :=
  ⟨h.zb, h.ba, h.len, h.old.elim fun w0 ⟨h1, h2, h3⟩ => ⟨w0, h1, h2, below_drewN h3 n⟩, h.box, h.pos⟩
theorem Taker.lies {z b a m c t : Nat} {A : Option Addr} {l : List UInt8} {w : World} (h : Taker z b a m c t A l w) : Lies w A (l.map bv) :=
  h.old.elim fun _ ⟨h1, _, h3⟩ => h1.below h3
theorem Taker.step {z b a m c t : Nat} {A : Option Addr} {l : List UInt8} {w : World} (h : Taker z b a m c t A l w) (t' : Nat) : Taker z b a m c t' A l (w.setCell ⟨a, 0, none⟩ (.int .i64 (t' : Int))) := by
  refine ⟨h.zb, h.ba, h.len, ?_, ?_, h.pos.set_ 0 _⟩
  · obtain ⟨w0, h1, h2, h3⟩ := h.old
    have := h.ba
    have := h.zb
    exact ⟨w0, h1, h2, h3.setCell (show w0.heap.size ≤ a by omega) _⟩
  · exact Row.far h.box (show b ≠ a by have := h.ba; omega) _
theorem Taker.far {z b a m c t : Nat} {A : Option Addr} {l : List UInt8} {w : World} (h : Taker z b a m c t A l w) {g : Nat} (hg : z ≤ g) (hgb : g < b) (k : Nat) (u : Value) : Taker z b a m c t A l (w.setCell ⟨g, k, none⟩ u) := by
  have := h.ba
  refine ⟨h.zb, h.ba, h.len, ?_, Row.far h.box (show b ≠ g by omega) _, Row.far h.pos (show a ≠ g by omega) _⟩
  obtain ⟨w0, h1, h2, h3⟩ := h.old
  exact ⟨w0, h1, h2, h3.setCell (show w0.heap.size ≤ g by omega) _⟩
def TakeRel1 (z b a m c t W : Nat) (A : Option Addr) (l : List UInt8) (w : World) (v x : Value) (wr : World) : Prop :=
  ∃ k : Nat, v = .int .i64 (k : Int) ∧ k ≤ W ∧ x = .int .u64 ((btake (bval l) (8 * m) t (W - k) : Nat) : Int) ∧ Taker z b a m c (t + W - k) A l wr ∧ Below a w wr
def TakePost (z b a m c t W : Nat) (A : Option Addr) (l : List UInt8) (w : World) (e : Ending) (w' : World) : Prop :=
  e = .returned (.int .u64 ((btake (bval l) (8 * m) t W : Nat) : Int)) ∧ Taker z b a m c (t + W) A l w' ∧ Below a w w'

set_option maxHeartbeats 1000000 in
set_option maxRecDepth 100000 in
theorem take1_any (z b a m c t W : Nat) (A : Option Addr) (l : List UInt8) (w : World) (hp : Taker z b a m c t A l w) (hW : W ≤ 64) (ht : t + W ≤ 8 * m) (hm : m ≤ 100000) :
    Calls Tryd.prog 55 #[.int .i64 (W : Int), .pointer (some ⟨a, 0, none⟩), .pointer (some ⟨b, 0, none⟩)] w (TakePost z b a m c t W A l w) := by
  go_enter Tryd.func55, Tryd.ntmps55
  go_wp2
  go_loopw [0, 5] (TakeRel1 z b a m c t W A l w) (fun v _ _ => (intOf v).toNat)
  case atStart => exact ⟨W, rfl, Nat.le_refl _, by rw [Nat.sub_self, btake_zero]; rfl, by rw [Nat.add_sub_cancel]; exact hp, Below.refl _ _⟩
  case round =>
    obtain ⟨k, rfl, hk, rfl, hP, hb⟩ := hrel
    obtain ⟨T, hT⟩ : ∃ T, T = t + W - k := ⟨_, rfl⟩
    rw [← hT] at hP
    obtain ⟨X, hX⟩ : ∃ X, X = btake (bval l) (8 * m) t (W - k) := ⟨_, rfl⟩
    rw [← hX]
    have HT := Lib.hid hT
    have HX := Lib.hid hX
    clear hT hX
    have hc1 := hP.pos.cell 0
    have hc2 := hP.box.cell 0
    have hf1 := hP.pos.free 0
    by_cases hk0 : 0 < k
    · have hT8 : T + k ≤ 8 * m := by have := HT.out; omega
      obtain ⟨r, hr⟩ : ∃ r, r = 8 - T % 8 := ⟨_, rfl⟩
      obtain ⟨n, hn⟩ : ∃ n, n = min r k := ⟨_, rfl⟩
      obtain ⟨j, hj⟩ : ∃ j, j = k - n := ⟨_, rfl⟩
      obtain ⟨d, hd⟩ : ∃ d, d = r - n := ⟨_, rfl⟩
      obtain ⟨q, hq⟩ : ∃ q, q = T / 8 := ⟨_, rfl⟩
      have hri : IntKind.i64.wrap (8 - (T : Int) % 8) = (r : Int) := by rw [IntKind.wrap_i64]; omega
      have hmin : ∀ (ts : Array TypeId) (t : TypeId) (W : World), (Builtin.min_ ts t #[.int .i64 (r : Int), .int .i64 (k : Int)]).run Tryd.prog W = .ok (.int .i64 (n : Int)) W := fun ts t W => by
        rw [run_min_int2]
        congr 2
        split <;> omega
      have hki : IntKind.i64.wrap ((k : Int) - (n : Int)) = (j : Int) := by rw [IntKind.wrap_i64]; omega
      have hdi : IntKind.i64.wrap ((r : Int) - (n : Int)) = (d : Int) := by rw [IntKind.wrap_i64]; omega
      have hwq : IntKind.i64.wrap (q : Int) = (q : Int) := by rw [IntKind.wrap_i64]; omega
      have hqi : (T : Int) / 8 = (q : Int) := by omega
      have hqm : (q : Int) < (m : Int) := by omega
      have hr8 : r ≤ 8 := by omega
      have hn8 : n ≤ 8 := by omega
      have hd8 : d ≤ 8 := by omega
      have hn0 : 0 < n := by omega
      have hnk : n ≤ k := by omega
      have hnr : n ≤ r := by omega
      obtain ⟨hql, htb⟩ := btake_at hq hr hd hP.len hnr hn0 (show T + n ≤ 8 * m by omega)
      have HR := Lib.hid hr
      have HJ := Lib.hid hj
      have HD := Lib.hid hd
      have HQ := Lib.hid hq
      clear hr hn hj hd hq
      obtain ⟨L, hL⟩ : ∃ L, L = 2 ^ n - 1 := ⟨_, rfl⟩
      have HL := Lib.hid hL
      obtain ⟨ad, rfl, _, hcell⟩ := hP.lies.cell (k := q) (by simpa using hql)
      obtain ⟨B, hB⟩ : ∃ B, B = l[q].toNat := ⟨_, rfl⟩
      have hB8 : (B : Int) < 256 := by have := l[q].toNat_lt; omega
      have hcB : wr.cell? (ad.add q) = some (.int .u8 (B : Int)) := by rw [hcell, List.getElem_map, hB]; rfl
      obtain ⟨P, hP0⟩ : ∃ P, P = B / 2 ^ d % 2 ^ n := ⟨_, rfl⟩
      have hand := and_low B d n L (by omega) hn8 hL
      rw [← hP0] at hand
      rw [← hB, ← hP0] at htb
      have hPn : P < 2 ^ n := by rw [hP0]; exact Nat.mod_lt _ (Nat.pow_pos (by omega))
      obtain ⟨Y, hY⟩ : ∃ Y, Y = X * 2 ^ n := ⟨_, rfl⟩
      have hsum : Y + P = btake (bval l) (8 * m) t (W - j) := by
        have h1 := btake_add (B := bval l) (M := 8 * m) (at_ := t) (a := W - k) (n := n) (by have := HT.out; omega)
        rw [hY, HX.out, htb, HT.out, show t + W - k = t + (W - k) by omega, h1]
        congr 1
        have := HJ.out
        omega
      have hlt64 : Y + P < 2 ^ 64 := by
        rw [hsum]
        have h1 := btake_lt (bval l) (8 * m) t (W - j)
        have h2 : 2 ^ (W - j) ≤ 2 ^ 64 := Nat.pow_le_pow_right (by omega) (by omega)
        omega
      have hsh : IntKind.u64.wrap ((X : Int) * 2 ^ n) = (Y : Int) := by
        rw [IntKind.wrap_u64, show (X : Int) * 2 ^ n = (Y : Int) by rw [hY]; simp]; omega
      have hor := or_word n Y P (by rw [hY]; exact Nat.mul_mod_left _ _) hPn hlt64
      rw [hsum] at hor
      obtain ⟨Z, hZ⟩ : ∃ Z, Z = btake (bval l) (8 * m) t (W - j) := ⟨_, rfl⟩
      rw [← hZ] at hor
      have HZ := Lib.hid hZ
      have HB8 := Lib.hid hB8
      clear hL hP0 hB hY hZ hsum hlt64 htb hcell hPn
      go_wp2
      go_quiet ((go_at_call 54; exact Calls.quiet_of_same (lowest_q _ L _ (by omega) HL.out)))
      have hP2 := hP.drewN nq
      have hb2 := below_drewN hb nq
      clear hc1 hc2 hf1 hP hb hand hcB
      generalize wr.drewN nq = w2 at *
      have hc1 := hP2.pos.cell 0
      have hf1 := hP2.pos.free 0
      go_wp2
      go_roundw
      case rel =>
        have hT2 : T + n = t + W - j := by have := HT.out; have := HJ.out; omega
        refine ⟨j, rfl, by have := HJ.out; omega, by rw [HZ.out], ?_, hb2.setCell (Nat.le_refl _) _⟩
        have h5 := hP2.step (T + n)
        rw [Int.natCast_add] at h5
        rw [← hT2]
        exact h5
      case measure => simp [intOf]; have := HJ.out; omega
    · obtain rfl : k = 0 := by omega
      go_wp2
      go_ret
      refine ⟨by rw [← Nat.sub_zero W, ← HX.out]; rfl, ?_, hb⟩
      have := HT.out
      rw [show t + W = T by omega]
      exact hP
def TakerPost (z m c : Nat) (A : Option Addr) (l : List UInt8) (w : World) (e : Ending) (w' : World) : Prop :=
  e = .returned (.func (.func 55) #[] #[.pointer (some ⟨w.heap.size + 1, 0, none⟩), .pointer (some ⟨w.heap.size, 0, none⟩)]) ∧ Taker z w.heap.size (w.heap.size + 1) m c 0 A l w' ∧ Below w.heap.size w w'
theorem taker_any (m c : Nat) (A : Option Addr) (l : List UInt8) (w w0 : World) (hr : Lies w0 A (l.map bv)) (hb0 : Below w0.heap.size w0 w) (hl : l.length = m) :
    Calls Tryd.prog 51 #[.slice A m c] w (TakerPost w0.heap.size m c A l w) := by
  have HL := Lib.hid hl
  clear hl
  go_enter Tryd.func51, Tryd.ntmps51
  go_wp2
  go_ret
  have h1 : Row (w.alloc (.cells #[.slice A m c] 23)) w.heap.size 23 [.slice A m c] := heap_alloc_new w _
  have hb : Below w.heap.size w ((w.alloc (.cells #[.slice A m c] 23)).alloc (.cells #[.int .i64 0] 3)) := ((Below.refl _ _).alloc (Nat.le_refl _) _).alloc (by simp) _
  refine ⟨rfl, ⟨hb0.size, by omega, HL.out, ⟨w0, hr, Nat.le_refl _, hb0.trans (hb.mono hb0.size)⟩, h1.alloc _, ?_⟩, hb⟩
  have h2 := heap_alloc_new (w.alloc (.cells #[.slice A m c] 23)) (.cells #[.int .i64 0] 3)
  have h3 : (w.alloc (.cells #[.slice A m c] 23)).heap.size = w.heap.size + 1 := by simp
  rw [h3] at h2
  exact h2

/-- What is answered of bytes, how many and a width that may be. -/
def unpacks (l : List UInt8) (M W : Nat) : List Nat × List UInt8 × Int :=
  if l.length < bsize M W then ([], [], 2) else if bval (l.take (bsize M W)) % 2 ^ (8 * bsize M W - W * M) = 0 then (bnums (bval (l.take (bsize M W))) (8 * bsize M W) W M, l.drop (bsize M W), 0) else ([], [], 2)
/-- Numbers, bytes and an error that a call answers. -/
def RetUE (w : World) (p : List Nat × List UInt8 × Int) (e : Ending) (w' : World) : Prop :=
  ∃ u v, e = .returned (.tuple #[u, v, .int .i64 p.2.2]) ∧ IsU p.1 u w' ∧ IsB p.2.1 v w' ∧ Below w.heap.size w w'
theorem isU_nil (w : World) : IsU [] (.slice none 0 0) w := ⟨none, 0, rfl, by simp, by simp, by unfold maxLen; omega, Lies.nil⟩
theorem RetUE.nil {w w' : World} (n : Int) (hb : Below w.heap.size w w') : RetUE w ([], [], n) (.returned (.tuple #[.slice none 0 0, .slice none 0 0, .int .i64 n])) w' := ⟨_, _, rfl, isU_nil _, isB_nil _, hb⟩
theorem isU_row {w : World} {g : Nat} {t : TypeId} {l : List Nat} {m : Nat} (h : Row w g t (l.map uv)) (hl : l.length = m) (hm : m ≤ 1000000) : IsU l (.slice (some ⟨g, 0, none⟩) m m) w := by
  subst hl
  exact ⟨_, _, rfl, by simp, Nat.le_refl _, by unfold maxLen; omega, by simpa using h.lies 0⟩
theorem isU_own {w : World} {base : Nat} {e : TypeId} {v : Value} {n : Nat} {l : List Nat} (h : w.ownsRow base e 1 v n (l.map uv)) : IsU l v w := by
  obtain ⟨B, c, rfl, hnc, hcm, _, hl, hlen⟩ := own_shape h
  rw [List.length_map] at hlen
  subst hlen
  refine ⟨B, c, rfl, ?_, hnc, hcm, hl⟩
  intro hB
  subst hB
  rcases hl with hl | ⟨ad, h, _⟩
  · simpa using hl
  · cases h
/-- The same, numbers and bytes in rows of the call's own. -/
def RetUO (w : World) (p : List Nat × List UInt8 × Int) (e : Ending) (w' : World) : Prop :=
  ∃ u v, e = .returned (.tuple #[u, v, .int .i64 p.2.2]) ∧ w'.ownsRow w.heap.size 52 1 u p.1.length (p.1.map uv) ∧ OwnB w p.2.1 v w' ∧ Below w.heap.size w w'
theorem RetUO.nil {w w' : World} (n : Int) (hb : Below w.heap.size w w') : RetUO w ([], [], n) (.returned (.tuple #[.slice none 0 0, .slice none 0 0, .int .i64 n])) w' := ⟨_, _, rfl, World.ownsRow_nil _ _ _ _, ⟨0, World.ownsRow_nil _ _ _ _⟩, hb⟩
theorem RetUO.ue {w w' : World} {p : List Nat × List UInt8 × Int} {e : Ending} (h : RetUO w p e w') : RetUE w p e w' := by
  obtain ⟨u, v, h1, h2, ⟨n, h3⟩, h4⟩ := h
  exact ⟨u, v, h1, isU_own h2, isB_own h3, h4⟩
end Go.Proofs.YtiapopaggpnceaaDoor
