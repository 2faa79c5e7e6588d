/- Texts that the claims of this seat share, part 11: QPlain QRef QRTake QIs KPlain KRef KLib. -/
import Derived.Sort.Walk0
import Derived.Laws.Strings
import Derived.WalkKit
import Derived.Lib.Strings
import Derived.Lib.Slices
import Derived.Lib.Small
import Derived.Lib.Bytealg
import Derived.Test.YtlibofmpnlfelaaGreatDoorCG10
/- Truths as bits of bytes, and these as runs of bytes (layer 6), as plain mathematics. -/





namespace Go.Proofs.YtlibofmpnlfelaaGreatDoor

def qn (l : List Bool) : List Nat := l.map Bool.toNat
theorem qn_len (l : List Bool) : (qn l).length = l.length := by simp [qn]
theorem qn_lt (l : List Bool) : ∀ x ∈ qn l, x < 2 ^ 1 := by
  intro x hx
  obtain ⟨b, _, rfl⟩ := List.mem_map.1 hx
  cases b <;> simp
theorem qn_snoc (l : List Bool) {k : Nat} (h : k < l.length) : qn (l.take (k + 1)) = qn (l.take k) ++ [l[k].toNat] := by
  rw [List.take_succ_eq_append_getElem h, qn, qn, List.map_append]; rfl
/-- Eight truths in a byte. -/
def qpack (l : List Bool) : List UInt8 := bpack (qn l) 1
theorem qpack_len (l : List Bool) : (qpack l).length = (l.length + 7) / 8 := by rw [qpack, bpack_len, qn_len, bsize]; simp
/-- The first M truths of bytes. -/
def qbits (x : List UInt8) (M : Nat) : List Bool := (bnums (bval x) (8 * x.length) 1 M).map (· == 1)
theorem qbits_len (x : List UInt8) (M : Nat) : (qbits x M).length = M := by simp [qbits, bnums_len]
theorem bool_back (l : List Bool) : (qn l).map (· == 1) = l := by
  rw [qn, List.map_map]
  conv => rhs; rw [← List.map_id l]
  exact List.map_congr_left fun b _ => by cases b <;> rfl
theorem qbits_qpack (l : List Bool) : qbits (qpack l) l.length = l := by
  have h := bnums_bpack (l := qn l) (w := 1) (qn_lt l)
  rw [qn_len] at h
  unfold qbits
  rw [show (qpack l).length = bsize l.length 1 by rw [qpack, bpack_len, qn_len], qpack, h, bool_back]
theorem qpack_spare (l : List Bool) : bval (qpack l) % 2 ^ (8 * (qpack l).length - l.length) = 0 := by
  have h := bpack_spare (l := qn l) (w := 1) (qn_lt l)
  rw [qn_len, Nat.one_mul] at h
  rw [show (qpack l).length = bsize l.length 1 by rw [qpack, bpack_len, qn_len]]
  exact h
/-- What Put answers. -/
def qputE (l : List Bool) : List UInt8 × Int := if l.length ≤ 4096 then (yput (qpack l), 0) else ([], 3)
/-- What Take answers. -/
def qtakeM (l : List UInt8) (M : Nat) : List Bool × List UInt8 × Int :=
  match ytake ((M + 7) / 8) l with
  | none => ([], [], 2)
  | some p => if bval p.1 % 2 ^ (8 * p.1.length - M) = 0 then (qbits p.1 M, p.2, 0) else ([], [], 2)
def qtakeE (l : List UInt8) (many : Int) : List Bool × List UInt8 × Int := if many < 0 ∨ 4096 < many then ([], [], 1) else qtakeM l many.toNat
theorem qtakeE_in {l : List UInt8} {M : Nat} (h : M ≤ 4096) : qtakeE l M = qtakeM l M := by unfold qtakeE; rw [if_neg (by omega), Int.toNat_natCast]
theorem qtakeE_arg {l : List UInt8} {many : Int} (h : many < 0 ∨ 4096 < many) : qtakeE l many = ([], [], 1) := by unfold qtakeE; rw [if_pos h]
theorem qtakeM_none {l : List UInt8} {M : Nat} (h : ytake ((M + 7) / 8) l = none) : qtakeM l M = ([], [], 2) := by unfold qtakeM; rw [h]
theorem qtakeM_yes {l x r : List UInt8} {M : Nat} (h : ytake ((M + 7) / 8) l = some (x, r)) (hs : bval x % 2 ^ (8 * x.length - M) = 0) : qtakeM l M = (qbits x M, r, 0) := by unfold qtakeM; rw [h]; simp only []; rw [if_pos hs]
theorem qtakeM_no {l x r : List UInt8} {M : Nat} (h : ytake ((M + 7) / 8) l = some (x, r)) (hs : bval x % 2 ^ (8 * x.length - M) ≠ 0) : qtakeM l M = ([], [], 2) := by unfold qtakeM; rw [h]; simp only []; rw [if_neg hs]
/-- P6.2. -/
theorem qtake_back (l : List Bool) (b : List UInt8) : qtakeM (yput (qpack l) ++ b) l.length = (l, b, 0) := by
  have h := ytake_back (qpack l) b
  rw [qpack_len] at h
  rw [qtakeM_yes h (qpack_spare l), qbits_qpack]
/-- How many are true. -/
def qcount (l : List Bool) : Nat := (l.filter fun b => b).length
theorem qcount_le (l : List Bool) : qcount l ≤ l.length := List.length_filter_le _ _
theorem qcount_snoc (l : List Bool) {k : Nat} (h : k < l.length) : qcount (l.take (k + 1)) = qcount (l.take k) + l[k].toNat := by
  rw [List.take_succ_eq_append_getElem h, qcount, qcount, List.filter_append, List.length_append]
  cases l[k] <;> rfl
/-- Bytes of which some bits are looked at are nought from a place on, just when each bit from there on is. -/
theorem bits_zero {x : List UInt8} {M k : Nat} (hM : M ≤ k) (hk : k ≤ 8 * x.length) (h : ∀ i, M ≤ i → i < k → btake (bval x) (8 * x.length) i 1 = 0) : btake (bval x) (8 * x.length) M (k - M) = 0 := by
  induction k with
  | zero => rw [show 0 - M = 0 by omega]; exact btake_zero _ _ _
  | succ k ih =>
    by_cases hMk : M = k + 1
    · subst hMk; rw [Nat.sub_self]; exact btake_zero _ _ _
    · have h1 := ih (by omega) (by omega) fun i h1 h2 => h i h1 (by omega)
      have h2 := btake_add (B := bval x) (M := 8 * x.length) (at_ := M) (a := k - M) (n := 1) (by omega)
      rw [h1, show M + (k - M) = k by omega, h k (by omega) (by omega), show k - M + 1 = k + 1 - M by omega] at h2
      omega
theorem spare_bit {B N M k : Nat} (h : B % 2 ^ (N - M) = 0) (hM : M ≤ k) (hk : k < N) : btake B N k 1 = 0 := by
  unfold btake
  obtain ⟨t, rfl⟩ : ∃ t, B = 2 ^ (N - M) * t := ⟨B / 2 ^ (N - M), by have := Nat.div_add_mod B (2 ^ (N - M)); rw [h] at this; omega⟩
  rw [show N - M = (N - (k + 1)) + ((k - M) + 1) by omega, Nat.pow_add, Nat.mul_assoc, Nat.mul_div_cancel_left _ (Nat.two_pow_pos _), Nat.pow_succ, Nat.pow_one, Nat.mul_comm (2 ^ (k - M)), Nat.mul_assoc, Nat.mul_mod_right]
theorem spare_all {x : List UInt8} {M : Nat} (hM : M ≤ 8 * x.length) (h : ∀ i, M ≤ i → i < 8 * x.length → btake (bval x) (8 * x.length) i 1 = 0) : bval x % 2 ^ (8 * x.length - M) = 0 := by
  have h1 := bits_zero hM (Nat.le_refl _) h
  rw [btake_spare hM] at h1
  exact h1
end Go.Proofs.YtlibofmpnlfelaaGreatDoor

/- Contracts of layer 6's reference: Same, Count, Put, Take. -/









namespace Go.Proofs.YtlibofmpnlfelaaGreatDoor

open Go.RowKit

end Go.Proofs.YtlibofmpnlfelaaGreatDoor

/- The contract of layer 6's reference's Take. -/





namespace Go.Proofs.YtlibofmpnlfelaaGreatDoor

open Go.RowKit

/-- Truths, bytes and an error that a call answers. -/
def RetLB (w : World) (p : List Bool × List UInt8 × Int) (e : Ending) (w' : World) : Prop :=
  ∃ u v, e = .returned (.tuple #[u, v, .int .i64 p.2.2]) ∧ IsV Value.bool p.1 u w' ∧ IsB p.2.1 v w' ∧ Below w.heap.size w w'
theorem RetLB.nil {w w' : World} (n : Int) (hb : Below w.heap.size w w') : RetLB w ([], [], n) (.returned (.tuple #[.slice none 0 0, .slice none 0 0, .int .i64 n])) w' := ⟨_, _, rfl, isV_nil _ _, isB_nil _, hb⟩
/-- The same, the truths in a row of the call's own. -/
def RetLBO (w : World) (p : List Bool × List UInt8 × Int) (e : Ending) (w' : World) : Prop :=
  ∃ u v, e = .returned (.tuple #[u, v, .int .i64 p.2.2]) ∧ OwnV Value.bool 4 w p.1 u w' ∧ IsB p.2.1 v w' ∧ Below w.heap.size w w'
theorem RetLBO.nil {w w' : World} (n : Int) (hb : Below w.heap.size w w') : RetLBO w ([], [], n) (.returned (.tuple #[.slice none 0 0, .slice none 0 0, .int .i64 n])) w' := ⟨_, _, rfl, OwnV.nil _ _ _ _, isB_nil _, hb⟩
theorem RetLBO.lb {w w' : World} {p : List Bool × List UInt8 × Int} {e : Ending} (h : RetLBO w p e w') : RetLB w p e w' := by
  obtain ⟨u, v, h1, h2, h3, h4⟩ := h
  exact ⟨u, v, h1, h2.isV, h3, h4⟩
end Go.Proofs.YtlibofmpnlfelaaGreatDoor

/- boolrle's own contracts. -/





namespace Go.Proofs.YtlibofmpnlfelaaGreatDoor

open Go.RowKit

/-- How many bytes so many truths need. -/
theorem qsize_any (n m : Nat) (w : World) (hn : n ≤ 100000) (hm : m = (n + 7) / 8) : Calls Tryz.prog 57 #[.int .i64 (n : Int)] w fun e w' => e = .returned (.int .i64 (m : Int)) ∧ w = w' := by
  have hmi : ((n : Int) + 7) / 8 = (m : Int) := by omega
  have hmj : ((n : Int) + 8 - 1) / 8 = (m : Int) := by omega
  have HM := Lib.hid hm
  clear hm
  go_enter Tryz.func57, Tryz.ntmps57
  go_wp2
  go_ret
  exact ⟨ret_int (by omega), rfl⟩

/-- The byte of the truths that stand at the front. -/
def qbyte (l : List Bool) : Nat := pval 1 (qn (l.take 8)) * 2 ^ (8 - min 8 l.length)
theorem qval_lt (l : List Bool) : pval 1 (qn l) < 2 ^ l.length := by
  have := pval_lt (w := 1) (l := qn l) (qn_lt l)
  rwa [qn_len, Nat.one_mul] at this
theorem qbyte_lt (l : List Bool) : qbyte l < 256 := by
  have h := qval_lt (l.take 8)
  rw [List.length_take] at h
  unfold qbyte
  calc _ < 2 ^ min 8 l.length * 2 ^ (8 - min 8 l.length) := Nat.mul_lt_mul_of_pos_right h (Nat.two_pow_pos _)
    _ = 256 := by rw [← Nat.pow_add, show min 8 l.length + (8 - min 8 l.length) = 8 by omega]
def QFirstRel (l : List Bool) (n : Nat) (w : World) (c i : Value) (wr : World) : Prop :=
  ∃ k C : Nat, k ≤ n ∧ i = .int .i64 (k : Int) ∧ c = .int .u8 (C : Int) ∧ C = pval 1 (qn (l.take k)) * 2 ^ (8 - k) ∧ C < 256 ∧ wr = w
set_option maxHeartbeats 1000000 in
theorem qfirst_any (l : List Bool) (v : Value) (w : World) (hl : IsV Value.bool l v w) :
    Calls Tryz.prog 59 #[v] w fun e w' => e = .returned (.int .u8 (qbyte l : Int)) ∧ w = w' := by
  have HLv := Lib.hid hl
  obtain ⟨A, n, c, rfl⟩ := hl.shape
  obtain ⟨hn, _, hnc, hcm, _⟩ := hl.parts
  obtain ⟨k0, hk0⟩ : ∃ k, k = min 8 n := ⟨_, rfl⟩
  have hk8 : k0 ≤ 8 := by omega
  have hkn : k0 ≤ n := by omega
  have hmin : ∀ (ts : Array TypeId) (t : TypeId) (W : World), (Builtin.min_ ts t #[.int .i64 (n : Int), .int .i64 8]).run Tryz.prog W = .ok (.int .i64 (k0 : Int)) W := fun ts t W => by
    rw [run_min_int2]
    congr 2
    split <;> omega
  have HN := Lib.hid hn
  have HK := Lib.hid hk0
  clear hl hn hk0 hcm
  go_enter Tryz.func59, Tryz.ntmps59
  go_wp2
  go_loopw [3, 8] (QFirstRel l k0 w) (fun _ i _ => k0 - (intOf i).toNat)
  case atStart => exact ⟨0, 0, by omega, rfl, rfl, by simp [pval, qn], by omega, rfl⟩
  case round =>
    obtain ⟨k, C, hk, rfl, rfl, hC, hC8, rfl⟩ := hrel
    have HC := Lib.hid hC
    clear hC
    by_cases hlt : k < k0
    · have hkl : k < l.length := by have := HN.out; omega
      have hkn' : k < n := by omega
      obtain ⟨ad, e1, _, hcell⟩ := HLv.out.at hkl
      subst e1
      have hs := qn_snoc l hkl
      have HS := Lib.hid hs
      clear hs
      have hk8' : k < 8 := by omega
      obtain ⟨D, hD⟩ : ∃ D, D = 2 ^ (7 - k) := ⟨_, rfl⟩
      have hsh : (128 : Int) / 2 ^ k = (D : Int) := by rw [shr128 k hk8', hD]
      have h2 : 2 ^ (8 - k) = 2 * 2 ^ (7 - k) := by rw [show 8 - k = (7 - k) + 1 by omega, Nat.pow_succ, Nat.mul_comm]
      have hV := qval_lt (l.take k)
      rw [List.length_take, Nat.min_eq_left (by omega)] at hV
      have hCD : C + D < 256 := by
        rw [HC.out, hD, h2]
        have h3 : (pval 1 (qn (l.take k)) + 1) * (2 * 2 ^ (7 - k)) ≤ 2 ^ k * (2 * 2 ^ (7 - k)) := Nat.mul_le_mul_right _ hV
        rw [← h2, ← Nat.pow_add, show k + (8 - k) = 8 by omega, h2, Nat.add_mul] at h3
        have := Nat.two_pow_pos (7 - k)
        omega
      have hor : bits .or .u8 (C : Int) (D : Int) = ((C + D : Nat) : Int) := by
        refine or_byte (8 - k) C D ?_ ?_ hCD
        · rw [HC.out]; exact Nat.mul_mod_left _ _
        · rw [hD, h2]; have := Nat.two_pow_pos (7 - k); omega
      obtain ⟨E, hE⟩ : ∃ E, E = C + D := ⟨_, rfl⟩
      rw [← hE] at hor
      have HD := Lib.hid hD
      have HE := Lib.hid hE
      clear hD h2 hV hCD hE
      cases hx : l[k] with
      | true =>
        rw [hx] at hcell HS
        clear hx
        have hrel : E = pval 1 (qn (l.take (k + 1))) * 2 ^ (8 - (k + 1)) := by
          rw [HE.out, HC.out, HD.out, HS.out, pval_snoc, show 8 - k = (7 - k) + 1 by omega, show 8 - (k + 1) = 7 - k by omega, Nat.pow_succ, Nat.pow_one, Nat.add_mul]
          simp only [Bool.toNat_true, Nat.one_mul, Nat.mul_assoc, Nat.mul_comm, Nat.mul_left_comm]
        have hE8 : E < 256 := by
          have h3 := qval_lt (l.take (k + 1))
          rw [List.length_take, Nat.min_eq_left (by omega)] at h3
          rw [hrel]
          calc _ < 2 ^ (k + 1) * 2 ^ (8 - (k + 1)) := Nat.mul_lt_mul_of_pos_right h3 (Nat.two_pow_pos _)
            _ = 256 := by rw [← Nat.pow_add, show k + 1 + (8 - (k + 1)) = 8 by omega]
        have HRel := Lib.hid hrel
        clear hrel
        go_wp2
        go_roundw
        case rel => exact ⟨k + 1, E, by omega, by go_num, rfl, HRel.out, hE8, rfl⟩
        case measure => simp [intOf]; omega
      | false =>
        rw [hx] at hcell HS
        clear hx
        have hrel : C = pval 1 (qn (l.take (k + 1))) * 2 ^ (8 - (k + 1)) := by
          rw [HC.out, HS.out, pval_snoc, show 8 - k = (7 - k) + 1 by omega, show 8 - (k + 1) = 7 - k by omega, Nat.pow_succ, Nat.pow_one]
          simp only [Bool.toNat_false, Nat.add_zero, Nat.mul_assoc, Nat.mul_comm, Nat.mul_left_comm]
        have HRel := Lib.hid hrel
        clear hrel
        go_wp2
        go_roundw
        case rel => exact ⟨k + 1, C, by omega, by go_num, rfl, HRel.out, hC8, rfl⟩
        case measure => simp [intOf]; omega
    · obtain rfl : k = k0 := by omega
      have hE : C = qbyte l := by
        unfold qbyte
        have h1 := HK.out
        rw [HN.out, ← h1, HC.out]
        congr 3
        rcases Nat.lt_or_ge n 8 with h | h
        · rw [List.take_of_length_le (by have := HN.out; omega), List.take_of_length_le (by have := HN.out; omega)]
        · rw [show k = 8 by omega]
      have HQ := Lib.hid hE
      clear hE
      go_wp2
      go_ret
      exact ⟨ret_int (by rw [HQ.out]), rfl⟩

/-- One truth of a byte. -/
theorem and_bit (B d D : Nat) (hB : B < 256) (hd : d < 8) (hD : D = 2 ^ d) : (bits .and .u8 (B : Int) (D : Int) != 0) = (B / 2 ^ d % 2 ^ 1 == 1) := by
  have h2 : 2 ^ d ≤ 2 ^ 7 := Nat.pow_le_pow_right (by omega) (by omega)
  rw [u8_and_nat B D hB (by omega), hD, nat_bit, show (2 : Nat) ^ 1 = 2 from rfl]
  have hp : 2 ^ d ≠ 0 := Nat.ne_of_gt (Nat.two_pow_pos d)
  generalize 2 ^ d = X at *
  rcases Nat.mod_two_eq_zero_or_one (B / X) with h | h
  · rw [h]; simp
  · rw [h, Nat.one_mul]
    have h3 : (X : Int) ≠ 0 := by omega
    simpa using h3
theorem truth_any (x : List UInt8) (v : Value) (i : Nat) (w : World) (hx : IsB x v w) (hi : i < 8 * x.length) (hb : x.length ≤ 1000000) :
    Calls Tryz.prog 78 #[v, .int .i64 (i : Int)] w fun e w' => e = .returned (.bool (btake (bval x) (8 * x.length) i 1 == 1)) ∧ Below w.heap.size w w' := by
  obtain ⟨A, n, c, rfl⟩ := IsV.shape (f := bv) hx
  obtain ⟨hn, _, hnc, hcm, _⟩ := IsV.parts (f := bv) hx
  obtain ⟨q, hq⟩ : ∃ q, q = i / 8 := ⟨_, rfl⟩
  obtain ⟨e, he⟩ : ∃ e, e = i % 8 := ⟨_, rfl⟩
  obtain ⟨r, hr⟩ : ∃ r, r = 8 - i % 8 := ⟨_, rfl⟩
  obtain ⟨d, hd⟩ : ∃ d, d = r - 1 := ⟨_, rfl⟩
  obtain ⟨hqx, htb⟩ := btake_at (l := x) (m := x.length) (n := 1) hq hr hd rfl (by omega) (by omega) (by omega)
  obtain ⟨ad, e1, _, hcell⟩ := IsV.at (f := bv) hx hqx
  subst e1
  obtain ⟨B, hB⟩ : ∃ B : Nat, B = x[q].toNat := ⟨_, rfl⟩
  have hB8 : B < 256 := by rw [hB]; exact UInt8.toNat_lt _
  have hcx : w.cell? (ad.add q) = some (.int .u8 (B : Int)) := by rw [hcell, hB]; rfl
  rw [← hB] at htb
  obtain ⟨D, hD⟩ : ∃ D, D = 2 ^ d := ⟨_, rfl⟩
  have hand := and_bit B d D hB8 (by omega) hD
  rw [htb] at hand
  have hqi : (i : Int) / 8 = (q : Int) := by omega
  have hei : (i : Int) % 8 = (e : Int) := by omega
  have htm : (i : Int).tmod 8 = (e : Int) := by rw [Int.tmod_eq_emod_of_nonneg (by omega)]; exact hei
  have he8 : e < 8 := by omega
  have hsr : (128 : Int) / 2 ^ e = (D : Int) := by rw [shr128 e he8, hD, show 7 - e = d by omega]
  have hqn : (q : Int) < (n : Int) := by omega
  obtain ⟨y, hy⟩ : ∃ y, y = bits .and .u8 (B : Int) (D : Int) := ⟨_, rfl⟩
  rw [← hy] at hand
  have hy' := hy.symm
  obtain ⟨t, ht⟩ : ∃ t, t = (btake (bval x) (8 * x.length) i 1 == 1) := ⟨_, rfl⟩
  rw [← ht] at hand ⊢
  clear hq he hr hd hB hD htb hcell hx hn hcm hy ht hqx
  go_enter Tryz.func78, Tryz.ntmps78
  go_wp2
  go_quiet (fail)
  go_wp2
  go_ret
  exact ⟨rfl, below_drewN (Below.refl _ _) _⟩

def QCountRel (l : List Bool) (w : World) (c i : Value) (wr : World) : Prop := ∃ k : Nat, k ≤ l.length ∧ i = .int .i64 (k : Int) ∧ c = .int .i64 (qcount (l.take k) : Int) ∧ wr = w
theorem qcount_is (l : List Bool) (v : Value) (w : World) (hl : IsV Value.bool l v w) (hb : l.length ≤ 1000000) :
    Calls Tryz.prog 79 #[v] w fun e w' => e = .returned (.int .i64 (qcount l : Int)) ∧ w = w' := by
  have HLv := Lib.hid hl
  obtain ⟨A, c, rfl, _, _, _, _⟩ := hl
  obtain ⟨n, hn⟩ : ∃ n, n = l.length := ⟨_, rfl⟩
  rw [← hn] at hb HLv ⊢
  have HN := Lib.hid hn
  clear hn
  go_enter Tryz.func79, Tryz.ntmps79
  go_wp2
  go_loopw [3, 8] (QCountRel l w) (fun _ i _ => n - (intOf i).toNat)
  case atStart => exact ⟨0, by omega, rfl, by simp [qcount], rfl⟩
  case round =>
    obtain ⟨k, hk, rfl, rfl, rfl⟩ := hrel
    have hk' : k ≤ n := by have := HN.out; omega
    obtain ⟨C, hC⟩ : ∃ C, C = qcount (l.take k) := ⟨_, rfl⟩
    rw [← hC]
    have hC6 : C ≤ 1000000 := by have := qcount_le (l.take k); rw [List.length_take] at this; omega
    have HC := Lib.hid hC
    clear hC
    by_cases hlt : k < n
    · have hkl : k < l.length := by have := HN.out; omega
      obtain ⟨ad, e1, _, hcell⟩ := HLv.out.at hkl
      subst e1
      have hs := qcount_snoc l hkl
      rw [← HC.out] at hs
      have HS := Lib.hid hs
      clear hs
      cases hx : l[k] with
      | true =>
        rw [hx] at hcell HS
        clear hx
        go_wp2
        go_roundw
        case rel => exact ⟨k + 1, by omega, by go_num, by rw [HS.out]; go_num, rfl⟩
        case measure => simp [intOf]; omega
      | false =>
        rw [hx] at hcell HS
        clear hx
        go_wp2
        go_roundw
        case rel => exact ⟨k + 1, by omega, by go_num, by rw [HS.out]; go_num, rfl⟩
        case measure => simp [intOf]; omega
    · obtain rfl : k = n := by omega
      go_wp2
      go_ret
      exact ⟨ret_int (by rw [HC.out, List.take_of_length_le (by have := HN.out; omega)]), rfl⟩
/-- What Put hands to made: the byte at a place. -/
theorem qput1_any (l : List Bool) (v : Value) (b i : Nat) (w : World) (hbx : Row w b 45 [v]) (hl : IsV Value.bool l v w) (hi : 8 * i ≤ l.length) (hb : l.length ≤ 1000000) :
    Calls Tryz.prog 58 #[.int .i64 (i : Int), .pointer (some ⟨b, 0, none⟩)] w fun e w' => e = .returned (.int .u8 (qbyte (l.drop (8 * i)) : Int)) ∧ w = w' := by
  obtain ⟨A, n, c, rfl⟩ := hl.shape
  obtain ⟨hn, _, hnc, hcm, _⟩ := hl.parts
  obtain ⟨k, hk⟩ : ∃ k, k = 8 * i := ⟨_, rfl⟩
  rw [← hk]
  have hki : (i : Int) * 8 = (k : Int) := by omega
  have hkn : k ≤ n := by omega
  obtain ⟨u, hu, hU⟩ := fromV_named elemL hkn hl
  have HU := Lib.hid hU
  have hc0 := hbx.cell 0
  clear hU hl hn hcm hk
  go_enter Tryz.func58, Tryz.ntmps58
  go_wp2_with (go_at_call 59; refine (qfirst_any _ u w HU.out).mono ?_; rintro e w' ⟨rfl, rfl⟩)
  go_ret
  exact ⟨rfl, rfl⟩
/-- What Take hands to made: the truth at a place. -/
theorem qtake1_any (x : List UInt8) (v : Value) (b i : Nat) (w : World) (hbx : Row w b 25 [v]) (hx : IsB x v w) (hi : i < 8 * x.length) (hb : x.length ≤ 1000000) :
    Calls Tryz.prog 77 #[.int .i64 (i : Int), .pointer (some ⟨b, 0, none⟩)] w fun e w' => e = .returned (.bool (btake (bval x) (8 * x.length) i 1 == 1)) ∧ Below w.heap.size w w' := by
  have HX := Lib.hid hx
  have hc0 := hbx.cell 0
  have HI := Lib.hid hi
  clear hx hi
  go_enter Tryz.func77, Tryz.ntmps77
  go_wp2_with (go_at_call 78; refine (truth_any x v i w HX.out HI.out hb).mono ?_; rintro e w' ⟨rfl, hb'⟩)
  go_ret
  exact ⟨rfl, hb'⟩

/-- The bytes of truths, one at each place. -/
def qbytes (l : List Bool) (m : Nat) : List UInt8 := (List.range m).map fun i => UInt8.ofNat (qbyte (l.drop (8 * i)))
theorem qbytes_len (l : List Bool) (m : Nat) : (qbytes l m).length = m := by simp [qbytes]
theorem qbytes_take (l : List Bool) {k m : Nat} (h : k < m) : (qbytes l m).take (k + 1) = (qbytes l m).take k ++ [UInt8.ofNat (qbyte (l.drop (8 * k)))] := by
  rw [List.take_succ_eq_append_getElem (by rw [qbytes_len]; exact h)]
  congr 2
  simp [qbytes]
theorem set_take {α : Type} (o : List α) (k : Nat) (x : α) (h : k < o.length) : (o.set k x).take (k + 1) = o.take k ++ [x] := by
  rw [List.take_succ_eq_append_getElem (by simpa using h), List.take_set_of_le (Nat.le_refl _)]
  simp
def QMadeBRel (T : List UInt8) (m g : Nat) (w : World) (i : Value) (wr : World) : Prop :=
  ∃ (k : Nat) (o : List UInt8), k ≤ m ∧ i = .int .i64 (k : Int) ∧ o.length = m ∧ o.take k = T.take k ∧ Row wr g 5 (o.map bv) ∧ Below g w wr
set_option maxHeartbeats 1000000 in
theorem qmadeb_any (l : List Bool) (v : Value) (b m : Nat) (w : World) (hbx : Row w b 45 [v]) (hl : IsV Value.bool l v w) (hm : 8 * m ≤ l.length + 7) (hb : l.length ≤ 100000) :
    Calls Tryz.prog 56 #[.int .i64 (m : Int), .func (.func 58) #[] #[.pointer (some ⟨b, 0, none⟩)]] w
      fun e w' => ∃ u, e = .returned u ∧ IsB (qbytes l m) u w' ∧ Below w.heap.size w w' := by
  have HL := Lib.hid hl
  have HB := Lib.hid hbx
  have hm5 : m ≤ 100000 := by omega
  clear hl hbx
  go_enter Tryz.func56, Tryz.ntmps56
  go_wp2_with (refine wpList_make elemB rfl _ _ rfl _ _ _ _ m w w.heap.size rfl rfl rfl rfl (by omega) (by omega) (Below.refl _ _) (Nat.le_refl _) ?_)
  intro w1 hr1 hb1
  have hst : QMadeBRel (qbytes l m) m w.heap.size w (.int .i64 0) w1 := ⟨0, List.replicate m 0, by omega, rfl, by simp, by simp, by simpa using hr1, hb1⟩
  clear hr1 hb1
  go_wp2
  go_loopw [11] (QMadeBRel (qbytes l m) m w.heap.size w) (fun i _ => m - (intOf i).toNat)
  case atStart => exact hst
  case round =>
    obtain ⟨k, o, hk, rfl, ho, hok, hr, hbr⟩ := hrel
    have HO := Lib.hid ho
    have HOK := Lib.hid hok
    clear ho hok hst
    by_cases hlt : k < m
    · have hlt2 : (k : Int) < (m : Int) := by omega
      obtain ⟨C, hC⟩ : ∃ C, C = qbyte (l.drop (8 * k)) := ⟨_, rfl⟩
      have hC8 : C < 256 := by rw [hC]; exact qbyte_lt _
      have hcall := qput1_any l v b k wr (HB.out.below hbr HB.out.lt) (HL.out.below hbr) (by omega) (by omega)
      rw [← hC] at hcall
      have HCall := Lib.hid hcall
      have HC := Lib.hid hC
      have hko : k < o.length := by have := HO.out; omega
      have hcx : wr.cell? ⟨w.heap.size, k, none⟩ = some (bv o[k]) := by rw [hr.cell, List.getElem?_map, List.getElem?_eq_getElem hko]; rfl
      have hfx := hr.free k
      have hr2 := row_set hr k C hC8
      have HR2 := Lib.hid hr2
      clear hcall hC hr2
      go_wp2_with (go_at_call 58; refine HCall.out.mono ?_; rintro e w' ⟨rfl, rfl⟩)
      go_roundw
      case rel =>
        refine ⟨k + 1, o.set k (UInt8.ofNat C), by omega, by go_num, by rw [List.length_set]; exact HO.out, ?_, HR2.out, hbr.setCell (Nat.le_refl _) _⟩
        rw [set_take _ _ _ hko, HOK.out, qbytes_take l hlt, ← HC.out]
      case measure => simp [intOf]; omega
    · obtain rfl : k = m := by omega
      have hlt2 : ¬ (k : Int) < (k : Int) := by omega
      have hT : o = qbytes l k := by
        have h1 := HOK.out
        rw [List.take_of_length_le (by rw [HO.out]; omega), List.take_of_length_le (by rw [qbytes_len]; omega)] at h1
        exact h1
      have HT := Lib.hid hT
      have HR := Lib.hid hr
      have HBR := Lib.hid hbr
      clear hT hr hbr
      go_wp2
      go_ret
      refine ⟨_, rfl, ?_, HBR.out⟩
      rw [← HT.out]
      exact isB_row HR.out HO.out (by omega)
theorem pval_append (w : Nat) (a b : List Nat) : pval w (a ++ b) = pval w a * 2 ^ (w * b.length) + pval w b := by
  induction a with
  | nil => simp [pval]
  | cons x r ih => rw [List.cons_append, pval, pval, ih, List.length_append, Nat.mul_add, Nat.pow_add, Nat.add_mul, Nat.mul_assoc]; omega
theorem bval_qbytes (l : List Bool) : ∀ k, 8 * k ≤ l.length + 7 → bval (qbytes l k) = pval 1 (qn (l.take (8 * k))) * 2 ^ (8 * k - min (8 * k) l.length)
  | 0, _ => by simp [qbytes, bval, pval, qn]
  | k + 1, h => by
    have ih := bval_qbytes l k (by omega)
    rw [show min (8 * k) l.length = 8 * k by omega, Nat.sub_self, Nat.pow_zero, Nat.mul_one] at ih
    have hs : qbytes l (k + 1) = qbytes l k ++ [UInt8.ofNat (qbyte (l.drop (8 * k)))] := by simp [qbytes, List.range_succ]
    rw [hs, bval_append, ih, show 8 * (k + 1) = 8 * k + 8 by omega, List.take_add, show qn (l.take (8 * k) ++ (l.drop (8 * k)).take 8) = qn (l.take (8 * k)) ++ qn ((l.drop (8 * k)).take 8) from List.map_append, pval_append]
    have h1 : bval [UInt8.ofNat (qbyte (l.drop (8 * k)))] = qbyte (l.drop (8 * k)) := by
      simp only [bval, List.length_nil, Nat.pow_zero, Nat.mul_one, Nat.add_zero, UInt8.toNat_ofNat', Nat.reducePow]
      exact Nat.mod_eq_of_lt (qbyte_lt _)
    rw [h1]
    unfold qbyte
    rw [qn_len, List.length_take, List.length_drop, List.length_singleton, Nat.pow_one, Nat.one_mul, show 8 * k + 8 - min (8 * k + 8) l.length = 8 - min 8 (l.length - 8 * k) by omega, Nat.add_mul, Nat.mul_assoc, ← Nat.pow_add,
      show min 8 (l.length - 8 * k) + (8 - min 8 (l.length - 8 * k)) = 8 by omega]
theorem qbytes_qpack (l : List Bool) (m : Nat) (hm : m = (l.length + 7) / 8) : qbytes l m = qpack l := by
  have hb : bsize (qn l).length 1 = m := by rw [qn_len, bsize, hm, Nat.mul_one]
  unfold qpack bpack
  rw [hb]
  refine eq_be (qbytes_len _ _) ?_
  rw [bval_qbytes l m (by omega), List.take_of_length_le (by omega), qn_len, show min (8 * m) l.length = l.length by omega, Nat.one_mul]

set_option maxHeartbeats 1000000 in
theorem qput_any (l : List Bool) (v : Value) (w : World) (hl : IsV Value.bool l v w) (hb : l.length ≤ 1000000) :
    Calls Tryz.prog 34 #[v] w (RetE w (qputE l)) := by
  have HL := Lib.hid hl
  obtain ⟨A, n, c, rfl⟩ := hl.shape
  obtain ⟨hn, _, _, _, _⟩ := hl.parts
  have HN := Lib.hid hn
  have hb2 : n ≤ 1000000 := by omega
  clear hl hb hn
  have hbA : Below w.heap.size w (w.alloc (.cells #[.slice A n c] 45)) := (Below.refl _ _).alloc (Nat.le_refl _) _
  have hrow : Row (w.alloc (.cells #[.slice A n c] 45)) w.heap.size 45 [.slice A n c] := heap_alloc_new w _
  by_cases hbig : n ≤ 4096
  · have hE : Hid (qputE l = (yput (qpack l), 0)) := Lib.hid (by unfold qputE; rw [if_pos (by rw [HN.out]; exact hbig)])
    have hbi : ¬ (4096 : Int) < (n : Int) := by omega
    obtain ⟨m, hm⟩ : ∃ m, m = (n + 7) / 8 := ⟨_, rfl⟩
    have HM := Lib.hid hm
    have hmade := qmadeb_any l _ w.heap.size m _ hrow (HL.out.below hbA) (by rw [HN.out]; omega) (by rw [HN.out]; omega)
    rw [qbytes_qpack l m (by rw [HN.out]; exact hm)] at hmade
    have HMade := Lib.hid hmade
    have hq5 : (qpack l).length ≤ 4096 := by rw [qpack_len, HN.out]; omega
    have HQ := Lib.hid hq5
    clear hm hmade hq5
    go_enter Tryz.func34, Tryz.ntmps34
    go_wp2_with (first | (go_at_call 57; refine (qsize_any n m _ (by omega) HM.out).mono ?_; rintro e w' ⟨rfl, rfl⟩) | (go_at_call 56; refine HMade.out.mono ?_))
    rintro e w2 ⟨u, rfl, hu, hb2'⟩
    have HU := Lib.hid hu
    have HB2 := Lib.hid (hbA.trans (hb2'.mono (by simp)))
    clear hu hb2' hrow hbA
    go_wp2_with (go_at_call 55; refine (bput_any _ u w2 HU.out (by have := HQ.out; omega)).mono ?_)
    rintro e w3 ⟨v3, rfl, hv3, hb3⟩
    have HV3 := Lib.hid hv3
    have HB3 := Lib.hid (below_then HB2.out hb3)
    have hy : yputE (qpack l) = (yput (qpack l), 0) := by unfold yputE; rw [if_pos HQ.out]
    rw [hy] at HV3
    simp only [hy]
    clear hv3 hb3 hy
    go_wp2
    go_ret2
    rw [hE.out]
    exact ⟨_, rfl, HV3.out, HB3.out⟩
  · have hE : Hid (qputE l = ([], 3)) := Lib.hid (by unfold qputE; rw [if_neg (by rw [HN.out]; exact hbig)])
    have hbi : (4096 : Int) < (n : Int) := by omega
    go_enter Tryz.func34, Tryz.ntmps34
    go_wp2
    go_ret2
    rw [hE.out]
    exact RetE.nil _ hbA

/-- What made makes of bytes: each bit of them. -/
theorem qbits_take (x : List UInt8) {k m : Nat} (h : k < m) : (qbits x m).take (k + 1) = (qbits x m).take k ++ [btake (bval x) (8 * x.length) k 1 == 1] := by
  rw [List.take_succ_eq_append_getElem (by rw [qbits_len]; exact h)]
  congr 2
  simp [qbits, bnums]
theorem qbits_first (x : List UInt8) {M m : Nat} (h : M ≤ m) : (qbits x m).take M = qbits x M := by
  unfold qbits bnums
  rw [← List.map_take, ← List.map_take, List.take_range, Nat.min_eq_left h]
theorem qcount_none {l : List Bool} : qcount l = 0 ↔ ∀ b ∈ l, b = false := by
  unfold qcount
  rw [List.length_eq_zero_iff, List.filter_eq_nil_iff]
  simp
theorem qspare_iff (x : List UInt8) {M : Nat} (hM : M ≤ 8 * x.length) : qcount ((qbits x (8 * x.length)).drop M) = 0 ↔ bval x % 2 ^ (8 * x.length - M) = 0 := by
  have hg : ∀ i, (h : i < 8 * x.length) → (qbits x (8 * x.length))[i]'(by rw [qbits_len]; exact h) = (btake (bval x) (8 * x.length) i 1 == 1) := by
    intro i h
    simp [qbits, bnums]
  rw [qcount_none]
  constructor
  · intro h
    refine spare_all hM fun i h1 h2 => ?_
    have h3 := h ((qbits x (8 * x.length))[i]'(by rw [qbits_len]; exact h2)) (List.mem_drop_iff_getElem.2 ⟨i - M, by rw [qbits_len]; omega, by congr 1; omega⟩)
    rw [hg i h2] at h3
    have h4 := btake_lt (bval x) (8 * x.length) i 1
    simp at h3 h4
    omega
  · intro h b hb
    obtain ⟨j, hj, rfl⟩ := List.mem_drop_iff_getElem.1 hb
    rw [qbits_len] at hj
    rw [hg _ (show M + j < 8 * x.length by omega), spare_bit h (by omega) (by omega)]
    rfl
def QMadeTRel (T : List Bool) (m g : Nat) (w : World) (i : Value) (wr : World) : Prop :=
  ∃ (k : Nat) (o : List Bool), k ≤ m ∧ i = .int .i64 (k : Int) ∧ o.length = m ∧ o.take k = T.take k ∧ Row wr g 4 (o.map Value.bool) ∧ Below g w wr
set_option maxHeartbeats 1000000 in
theorem qmadet_any (x : List UInt8) (v : Value) (b m : Nat) (w : World) (hbx : Row w b 25 [v]) (hx : IsB x v w) (hm : m = 8 * x.length) (hb : x.length ≤ 10000) :
    Calls Tryz.prog 76 #[.int .i64 (m : Int), .func (.func 77) #[] #[.pointer (some ⟨b, 0, none⟩)]] w
      fun e w' => ∃ g, e = .returned (.slice (some ⟨g, 0, none⟩) m m) ∧ w.heap.size ≤ g ∧ Row w' g 4 ((qbits x m).map Value.bool) ∧ Below w.heap.size w w' := by
  have HX := Lib.hid hx
  have HB := Lib.hid hbx
  have HM := Lib.hid hm
  have hm5 : m ≤ 100000 := by omega
  clear hx hbx hm
  go_enter Tryz.func76, Tryz.ntmps76
  go_wp2_with (refine wpList_make elemL rfl _ _ rfl _ _ _ _ m w w.heap.size rfl rfl rfl rfl (by omega) (by omega) (Below.refl _ _) (Nat.le_refl _) ?_)
  intro w1 hr1 hb1
  have hst : QMadeTRel (qbits x m) m w.heap.size w (.int .i64 0) w1 := ⟨0, List.replicate m false, by omega, rfl, by simp, by simp, by simpa using hr1, hb1⟩
  clear hr1 hb1
  go_wp2
  go_loopw [11] (QMadeTRel (qbits x m) m w.heap.size w) (fun i _ => m - (intOf i).toNat)
  case atStart => exact hst
  case round =>
    obtain ⟨k, o, hk, rfl, ho, hok, hr, hbr⟩ := hrel
    have HO := Lib.hid ho
    have HOK := Lib.hid hok
    clear ho hok hst
    by_cases hlt : k < m
    · have hlt2 : (k : Int) < (m : Int) := by omega
      obtain ⟨t, ht⟩ : ∃ t, t = (btake (bval x) (8 * x.length) k 1 == 1) := ⟨_, rfl⟩
      have hcall := qtake1_any x v b k wr (HB.out.below hbr HB.out.lt) (IsB.below HX.out hbr) (by rw [← HM.out]; exact hlt) (by omega)
      rw [← ht] at hcall
      have HCall := Lib.hid hcall
      have HT := Lib.hid ht
      have hko : k < o.length := by have := HO.out; omega
      clear hcall ht
      go_wp2_with (go_at_call 77; refine HCall.out.mono ?_)
      rintro e w2 ⟨rfl, hb2⟩
      have hgr := hr.lt
      have hrw := hr.below hb2 hgr
      have hbw := hbr.trans (hb2.mono (by omega))
      have hcx : w2.cell? ⟨w.heap.size, k, none⟩ = some (Value.bool o[k]) := by rw [hrw.cell, List.getElem?_map, List.getElem?_eq_getElem hko]; rfl
      have hfx := hrw.free k
      have hr2 := hrw.set_ k (.bool t)
      rw [show (o.map Value.bool).set k (.bool t) = (o.set k t).map Value.bool from List.map_set.symm] at hr2
      have HR2 := Lib.hid hr2
      have HBW := Lib.hid hbw
      clear hr2 hr hb2 hbr hbw hrw hgr
      go_wp2
      go_roundw
      case rel =>
        refine ⟨k + 1, o.set k t, by omega, by go_num, by rw [List.length_set]; exact HO.out, ?_, HR2.out, HBW.out.setCell (Nat.le_refl _) _⟩
        rw [set_take _ _ _ hko, HOK.out, qbits_take x hlt, ← HT.out]
      case measure => simp [intOf]; omega
    · obtain rfl : k = m := by omega
      have hlt2 : ¬ (k : Int) < (k : Int) := by omega
      have hT : o = qbits x k := by
        have h1 := HOK.out
        rw [List.take_of_length_le (by rw [HO.out]; omega), List.take_of_length_le (by rw [qbits_len]; omega)] at h1
        exact h1
      have HT := Lib.hid hT
      have HR := Lib.hid hr
      have HBR := Lib.hid hbr
      clear hT hr hbr
      go_wp2
      go_ret
      refine ⟨_, rfl, Nat.le_refl _, ?_, HBR.out⟩
      rw [← HT.out]
      exact HR.out

set_option maxHeartbeats 4000000 in
set_option maxRecDepth 100000 in
theorem qtake_own (l : List UInt8) (v : Value) (many : Int) (w : World) (hv : IsB l v w) (hb : l.length ≤ 1000000) :
    Calls Tryz.prog 46 #[v, .int .i64 many] w (RetLBO w (qtakeE l many)) := by
  by_cases h0 : many < 0
  · have hE := Lib.hid (qtakeE_arg (l := l) (Or.inl h0))
    have d1 : decide (many < 0) = true := decide_eq_true h0
    go_enter Tryz.func46, Tryz.ntmps46
    go_wp2
    go_ret3
    rw [hE.out]
    exact RetLBO.nil _ (Below.refl _ _)
  · have d1 : decide (many < 0) = false := decide_eq_false h0
    by_cases h4 : 4096 < many
    · have hE := Lib.hid (qtakeE_arg (l := l) (Or.inr h4))
      have d2 : decide ((4096 : Int) < many) = true := decide_eq_true h4
      go_enter Tryz.func46, Tryz.ntmps46
      go_wp2
      go_ret3
      rw [hE.out]
      exact RetLBO.nil _ (Below.refl _ _)
    · obtain ⟨M, rfl⟩ := Int.eq_ofNat_of_zero_le (show 0 ≤ many by omega)
      have hM : M ≤ 4096 := by omega
      have d2 : decide ((4096 : Int) < (M : Int)) = false := decide_eq_false (by omega)
      rw [qtakeE_in hM]
      obtain ⟨m, hm⟩ : ∃ m, m = (M + 7) / 8 := ⟨_, rfl⟩
      have hm5 : m ≤ 4096 := by omega
      have hM8 : M ≤ 8 * m := by omega
      have HR := Lib.hid (btake_any l v (m : Int) w hv hb)
      have HMm := Lib.hid hm
      clear hv hm
      cases hy : ytake m l with
      | none =>
        have hR := HR.out
        rw [ytakeE_none hm5 hy] at hR
        have HR2 := Lib.hid hR
        have hE := Lib.hid (qtakeM_none (l := l) (M := M) (by rw [← HMm.out]; exact hy))
        clear hR hy
        go_enter Tryz.func46, Tryz.ntmps46
        go_wp2_with (first | (go_at_call 57; refine (qsize_any M m _ (by omega) HMm.out).mono ?_; rintro e w' ⟨rfl, rfl⟩) | (go_at_call 75; refine HR2.out.mono ?_))
        rintro e w2 ⟨u2, v2, rfl, hu2, _, hb2⟩
        have HB2 := Lib.hid (hb2.alloc hb2.size (.cells #[u2] 25))
        obtain ⟨Ax, nx, cx, rfl⟩ := IsV.shape (f := bv) hu2
        clear hb2 hu2
        go_wp2
        go_ret3
        rw [hE.out]
        exact RetLBO.nil _ HB2.out
      | some p =>
        obtain ⟨x, r⟩ := p
        have hR := HR.out
        rw [ytakeE_some hm5 hy] at hR
        have HR2 := Lib.hid hR
        have HY := Lib.hid hy
        have hxm := (ytake_len hy).1
        have HX := Lib.hid hxm
        clear hR hy hxm
        go_enter Tryz.func46, Tryz.ntmps46
        go_wp2_with (first | (go_at_call 57; refine (qsize_any M m _ (by omega) HMm.out).mono ?_; rintro e w' ⟨rfl, rfl⟩) | (go_at_call 75; refine HR2.out.mono ?_))
        rintro e w2 ⟨u2, v2, rfl, hu2, hv2, hb2⟩
        have hbA : Below w2.heap.size w2 (w2.alloc (.cells #[u2] 25)) := (Below.refl _ _).alloc (Nat.le_refl _) _
        have hrow : Row (w2.alloc (.cells #[u2] 25)) w2.heap.size 25 [u2] := heap_alloc_new w2 _
        obtain ⟨N, hN⟩ : ∃ N, N = 8 * m := ⟨_, rfl⟩
        have hNi : (m : Int) * 8 = (N : Int) := by omega
        have hmade := qmadet_any x u2 w2.heap.size N _ hrow (IsB.below hu2 hbA) (by rw [HX.out]; exact hN) (by rw [HX.out]; exact Nat.le_trans hm5 (by omega))
        have HMade := Lib.hid hmade
        have HV2 := Lib.hid (IsB.below hv2 hbA)
        have HB2 := Lib.hid (below_then hb2 hbA)
        have HN := Lib.hid hN
        obtain ⟨Ax, cx, hux, _, _, _, _⟩ := hu2
        have hux2 : u2 = .slice Ax m cx := by rw [hux]; simp only [HX.out]
        subst hux2
        clear hux hv2 hb2 hbA hrow hmade hN
        go_wp2_with (go_at_call 76; refine HMade.out.mono ?_)
        rintro e w3 ⟨g3, rfl, hg3, hr3, hb3⟩
        have hN5 : N ≤ 100000 := by have := HN.out; omega
        have hMn : M ≤ N := by have := HN.out; omega
        have hu3 : IsV Value.bool (qbits x N) (.slice (some ⟨g3, 0, none⟩) N N) w3 := isV_row hr3 (qbits_len _ _) (by omega)
        have HV3 := Lib.hid (HV2.out.below hb3)
        have HB3 := Lib.hid (below_then HB2.out hb3)
        have hci3 : (N : Int) ≤ 9223372036854775807 := by omega
        have hMc : (M : Int) ≤ (N : Int) := by omega
        have HO3 : Hid (OwnV Value.bool 4 w (qbits x M) (.slice (some ⟨g3, 0, none⟩) M N) w3) := Lib.hid ⟨M, by rw [List.length_map, qbits_len, Nat.mul_one], .inr ⟨g3, N, _, rfl, Nat.le_trans HB2.out.size hg3, hr3, hMn, by unfold maxLen; omega, by simp [qbits_len], by
          rw [Nat.mul_one, List.toList_toArray, ← List.map_take, qbits_first x hMn]⟩⟩
        obtain ⟨u4, hu4, hU4⟩ := fromV_named elemL hMn hu3
        have HU4 := Lib.hid hU4
        have hlen4 : ((qbits x N).drop M).length ≤ 1000000 := by rw [List.length_drop, qbits_len]; have := HN.out; omega
        have HL4 := Lib.hid hlen4
        have hiff := qspare_iff x (M := M) (by rw [HX.out]; exact hM8)
        rw [show 8 * x.length = N by rw [HX.out]; exact HN.out.symm] at hiff
        have HIff := Lib.hid hiff
        obtain ⟨q, hq⟩ : ∃ q, q = qcount ((qbits x N).drop M) := ⟨_, rfl⟩
        have HCall := Lib.hid (qcount_is _ u4 w3 HU4.out HL4.out)
        rw [← hq] at HCall HIff
        clear hu3 hb3 hU4 hlen4 hiff hg3 hr3 hq
        by_cases hs0 : q = 0
        · subst hs0
          have hE := Lib.hid (qtakeM_yes (l := l) (M := M) (by rw [← HMm.out]; exact HY.out) (by rw [HX.out, ← HN.out]; exact HIff.out.1 rfl))
          go_wp2_with (go_at_call 79; refine HCall.out.mono ?_; rintro e w' ⟨rfl, rfl⟩)
          go_ret3
          rw [hE.out]
          exact ⟨_, _, rfl, HO3.out, HV3.out, HB3.out⟩
        · have hE := Lib.hid (qtakeM_no (l := l) (M := M) (by rw [← HMm.out]; exact HY.out) (by rw [HX.out, ← HN.out]; exact fun h => hs0 (HIff.out.2 h)))
          have hq0 : ((q : Int) != 0) = true := by simpa using hs0
          go_wp2_with (go_at_call 79; refine HCall.out.mono ?_; rintro e w' ⟨rfl, rfl⟩)
          go_ret3
          rw [hE.out]
          exact RetLBO.nil _ HB3.out
theorem qtake_any (l : List UInt8) (v : Value) (many : Int) (w : World) (hv : IsB l v w) (hb : l.length ≤ 1000000) :
    Calls Tryz.prog 46 #[v, .int .i64 many] w (RetLB w (qtakeE l many)) := (qtake_own l v many w hv hb).mono fun _ _ h => h.lb
end Go.Proofs.YtlibofmpnlfelaaGreatDoor

/- Values of columns (layer 12), as plain mathematics. -/







namespace Go.Proofs.YtlibofmpnlfelaaGreatDoor

/-- A value: nothing, a number, a text. -/
structure CV where
  null : Bool
  n : Int
  s : ByteArray
def cv (v : CV) : Value := .agg #[.bool v.null, .int .i64 v.n, .string v.s]
def CV.inInt (v : CV) : Prop := -9223372036854775808 ≤ v.n ∧ v.n ≤ 9223372036854775807
end Go.Proofs.YtlibofmpnlfelaaGreatDoor

/- Contracts of layer 12's reference. -/







namespace Go.Proofs.YtlibofmpnlfelaaGreatDoor

open Go.RowKit

def kcells (v : CV) : List Value := [.bool v.null, .int .i64 v.n, .string v.s]
/-- A column: its name, its kind. -/
structure CC where
  s : ByteArray
  kind : Int
end Go.Proofs.YtlibofmpnlfelaaGreatDoor

/- Contracts of what the program's layer 12 calls of Go's library: strings.HasPrefix, strings.Compare, cmp.Compare at int. -/













namespace Go.Proofs.YtlibofmpnlfelaaGreatDoor

open Go.RowKit

set_option maxHeartbeats 1000000 in
theorem llite_prefix (s p : ByteArray) (w : World) : Calls Tryz.prog 85 #[.string s, .string p] w fun e w' => e = .returned (.bool (Lib.hasPrefix s.data.toList p.data.toList)) ∧ w = w' := by
  rw [← Lib.hasPrefix_of_take, ← Lib.size_eq, ← Lib.size_eq]
  go_enter Tryz.func85, Tryz.ntmps85
  go_wp2
  · rename_i h
    go_ret
    refine ⟨?_, rfl⟩
    show Ending.returned (Value.bool ((s.extract 0 p.size).toList == p.toList)) = _
    rw [Lib.extract_toList, Lib.toList_data]
    simp [h]
  · rename_i h
    go_ret
    refine ⟨?_, rfl⟩
    show Ending.returned (Value.bool false) = _
    simp [h]
theorem lprefix_any (s p : ByteArray) (w : World) : Calls Tryz.prog 54 #[.string s, .string p] w fun e w' => e = .returned (.bool (Lib.hasPrefix s.data.toList p.data.toList)) ∧ w = w' := by
  go_enter Tryz.func54, Tryz.ntmps54
  go_wp2_with (go_at_call 85; refine (llite_prefix _ _ _).mono ?_; rintro e w' ⟨rfl, rfl⟩)
  go_ret
  exact ⟨rfl, rfl⟩
end Go.Proofs.YtlibofmpnlfelaaGreatDoor
