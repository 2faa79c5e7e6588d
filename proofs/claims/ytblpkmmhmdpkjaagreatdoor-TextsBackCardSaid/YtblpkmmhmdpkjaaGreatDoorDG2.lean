/- Texts that the claims of this seat share, part 2: BPlain BGen BLeaf BPut BTake BUnp BRPack BRUnp Plain VZig Leaf RPut Put Take RTake Int VIs Sl EPlain ERef ERTake. -/
import Derived.WalkKit
import Derived.WalkLawsBesides
import Derived.Outline
import Derived.Lib.Hide
import Derived.Handy
import Derived.Deep.QuietTactic
import Derived.BigQuiet
import Derived.StillTailTactics
import Derived.Deep.DeepMust
import Derived.Lib.BitFns
import Derived.Lib.MinMax
import Derived.Deep.RegionWith
import Derived.Deep.RegionLaw
import Derived.BigGuardPart
import Derived.Deep.Grids
import Derived.Test.YtblpkmmhmdpkjaaGreatDoorDG1
/- Bits packed one behind the other, as plain mathematics: a row of bytes, and a row of numbers of one width, each as one number. -/

namespace Go.Proofs.YtblpkmmhmdpkjaaGreatDoor

/-- Bytes as one number, the first one highest. -/
def bval : List UInt8 → Nat
  | [] => 0
  | b :: r => b.toNat * 256 ^ r.length + bval r
/-- Numbers of w bits as one number, the first one highest. -/
def pval (w : Nat) : List Nat → Nat
  | [] => 0
  | x :: r => x * 2 ^ (w * r.length) + pval w r
/-- How many bytes n numbers of w bits need. -/
def bsize (n w : Nat) : Nat := (n * w + 7) / 8
/-- So many bytes that are a number. -/
def be : Nat → Nat → List UInt8
  | 0, _ => []
  | m + 1, N => UInt8.ofNat (N / 256 ^ m % 256) :: be m N

theorem p256 (k : Nat) : 256 ^ k = 2 ^ (8 * k) := by rw [Nat.pow_mul]
theorem be_len (m N : Nat) : (be m N).length = m := by
  induction m with
  | zero => rfl
  | succ m ih => simp [be, ih]
theorem bval_be (m N : Nat) : bval (be m N) = N % 256 ^ m := by
  induction m with
  | zero => simp [be, bval]; omega
  | succ m ih =>
    rw [be, bval, be_len, ih]
    simp only [UInt8.toNat_ofNat', Nat.reducePow, Nat.mod_mod]
    rw [Nat.pow_succ, Nat.mod_mul, Nat.mul_comm]
    omega
theorem bval_lt (l : List UInt8) : bval l < 256 ^ l.length := by
  induction l with
  | nil => simp [bval]
  | cons b r ih =>
    have hb := b.toNat_lt
    have h1 : (b.toNat + 1) * 256 ^ r.length ≤ 256 * 256 ^ r.length := Nat.mul_le_mul_right _ (by omega)
    rw [bval, List.length_cons, Nat.pow_succ]
    rw [Nat.add_mul] at h1
    omega
theorem bval_inj : ∀ (l m : List UInt8), l.length = m.length → bval l = bval m → l = m
  | [], [], _, _ => rfl
  | [], _ :: _, h, _ => by simp at h
  | _ :: _, [], h, _ => by simp at h
  | b :: r, c :: s, h, e => by
    have hl : r.length = s.length := by simpa using h
    have h1 := bval_lt r
    have h2 := bval_lt s
    rw [bval, bval, hl] at e
    rw [hl] at h1
    have hp : 0 < 256 ^ s.length := Nat.pow_pos (by omega)
    have hd : (b.toNat * 256 ^ s.length + bval r) / 256 ^ s.length = b.toNat := by
      rw [Nat.mul_comm, Nat.mul_add_div hp, Nat.div_eq_of_lt h1]; omega
    have hd2 : (c.toNat * 256 ^ s.length + bval s) / 256 ^ s.length = c.toNat := by
      rw [Nat.mul_comm, Nat.mul_add_div hp, Nat.div_eq_of_lt h2]; omega
    have hbc : b.toNat = c.toNat := by rw [← hd, ← hd2, e]
    have hbe : b = c := UInt8.toNat_inj.1 hbc
    subst hbe
    rw [bval_inj r s hl (by omega)]
theorem eq_be {l : List UInt8} {m N : Nat} (hl : l.length = m) (h : bval l = N) : l = be m N := by
  refine bval_inj _ _ (by rw [be_len, hl]) ?_
  rw [bval_be, ← h, Nat.mod_eq_of_lt]
  rw [← hl]
  exact bval_lt l
theorem bval_append (a b : List UInt8) : bval (a ++ b) = bval a * 256 ^ b.length + bval b := by
  induction a with
  | nil => simp [bval]
  | cons x r ih => rw [List.cons_append, bval, bval, ih, List.length_append, Nat.pow_add, Nat.add_mul, Nat.mul_assoc]; omega
theorem bval_zeros (m : Nat) : bval (List.replicate m 0) = 0 := by
  induction m with
  | zero => rfl
  | succ m ih => rw [List.replicate_succ, bval, ih]; simp
theorem bval_get : ∀ (l : List UInt8) (k : Nat) (h : k < l.length), l[k].toNat = bval l / 256 ^ (l.length - 1 - k) % 256
  | b :: r, 0, _ => by
    have hp : 0 < 256 ^ r.length := Nat.pow_pos (by omega)
    simp only [List.getElem_cons_zero, bval, List.length_cons, Nat.add_sub_cancel, Nat.sub_zero]
    rw [Nat.mul_comm, Nat.mul_add_div hp, Nat.div_eq_of_lt (bval_lt r), Nat.add_zero, Nat.mod_eq_of_lt b.toNat_lt]
  | b :: r, k + 1, h => by
    have hk : k < r.length := by simpa using h
    have ih := bval_get r k hk
    simp only [List.getElem_cons_succ, bval, List.length_cons, Nat.add_sub_cancel]
    rw [ih]
    have he : r.length - (k + 1) = r.length - 1 - k := by omega
    rw [he]
    have hs : 256 ^ r.length = 256 ^ (r.length - 1 - k) * (256 ^ k * 256) := by
      rw [← Nat.pow_succ, ← Nat.pow_add]; congr 1; omega
    have hp : 0 < 256 ^ (r.length - 1 - k) := Nat.pow_pos (by omega)
    rw [hs, show b.toNat * (256 ^ (r.length - 1 - k) * (256 ^ k * 256)) = 256 ^ (r.length - 1 - k) * (b.toNat * 256 ^ k * 256) by
      rw [Nat.mul_left_comm, Nat.mul_assoc], Nat.mul_add_div hp]
    omega
theorem bval_set : ∀ (l : List UInt8) (k : Nat) (c : UInt8) (h : k < l.length), bval (l.set k c) + l[k].toNat * 256 ^ (l.length - 1 - k) = bval l + c.toNat * 256 ^ (l.length - 1 - k)
  | b :: r, 0, c, _ => by
    simp only [List.getElem_cons_zero, List.set_cons_zero, bval, List.length_cons, Nat.add_sub_cancel, Nat.sub_zero]
    omega
  | b :: r, k + 1, c, h => by
    have hk : k < r.length := by simpa using h
    have ih := bval_set r k c hk
    simp only [List.getElem_cons_succ, List.set_cons_succ, bval, List.length_cons, Nat.add_sub_cancel, List.length_set]
    have he : r.length - (k + 1) = r.length - 1 - k := by omega
    rw [he]
    omega

/-- What one piece of n bits does: the byte that it is laid into has room for it, and the row has it behind what was laid before. -/
theorem laid_step {out : List UInt8} {m at_ n V piece : Nat} (hm : out.length = m) (hn0 : 0 < n) (hn : n ≤ 8 - at_ % 8) (hat : at_ + n ≤ 8 * m) (hp : piece < 2 ^ n) (hv : bval out = V * 2 ^ (8 * m - at_)) :
    ∃ h : at_ / 8 < out.length, out[at_ / 8].toNat % 2 ^ (8 - at_ % 8) = 0 ∧ out[at_ / 8].toNat + piece * 2 ^ (8 - at_ % 8 - n) < 256 ∧
      piece * 2 ^ (8 - at_ % 8 - n) < 2 ^ (8 - at_ % 8) ∧
      bval (out.set (at_ / 8) (UInt8.ofNat (out[at_ / 8].toNat + piece * 2 ^ (8 - at_ % 8 - n)))) = (V * 2 ^ n + piece) * 2 ^ (8 * m - (at_ + n)) := by
  have hk : at_ / 8 < out.length := by omega
  refine ⟨hk, ?_⟩
  have hg := bval_get out (at_ / 8) hk
  have hs := bval_set out (at_ / 8) (UInt8.ofNat (out[at_ / 8].toNat + piece * 2 ^ (8 - at_ % 8 - n))) hk
  rw [hm] at hg hs
  obtain ⟨r, hr⟩ : ∃ r, r = 8 - at_ % 8 := ⟨_, rfl⟩
  rw [← hr] at hn hs ⊢
  have hr8 : r ≤ 8 := by omega
  have h1 : 8 * m - at_ = 8 * (m - 1 - at_ / 8) + r := by omega
  have h2 : 8 * m - (at_ + n) = 8 * (m - 1 - at_ / 8) + (r - n) := by omega
  have hpp : 0 < 256 ^ (m - 1 - at_ / 8) := Nat.pow_pos (by omega)
  rw [hv, h1, Nat.pow_add, ← p256, show V * (256 ^ (m - 1 - at_ / 8) * 2 ^ r) = 256 ^ (m - 1 - at_ / 8) * (V * 2 ^ r) by rw [Nat.mul_left_comm], Nat.mul_div_cancel_left _ hpp] at hg
  have h256 : 256 = 2 ^ (8 - r) * 2 ^ r := by rw [← Nat.pow_add, show 8 - r + r = 8 by omega]
  have hb : out[at_ / 8].toNat = V % 2 ^ (8 - r) * 2 ^ r := by rw [hg]; conv => lhs; rw [h256, Nat.mul_mod_mul_right]
  have hpc : piece * 2 ^ (r - n) < 2 ^ r := by
    have h3 : 2 ^ r = 2 ^ n * 2 ^ (r - n) := by rw [← Nat.pow_add]; congr 1; omega
    rw [h3]
    exact Nat.mul_lt_mul_of_pos_right hp (Nat.pow_pos (by omega))
  have hlt : out[at_ / 8].toNat + piece * 2 ^ (r - n) < 256 := by
    have h4 : V % 2 ^ (8 - r) < 2 ^ (8 - r) := Nat.mod_lt _ (Nat.pow_pos (by omega))
    have h5 : (V % 2 ^ (8 - r) + 1) * 2 ^ r ≤ 2 ^ (8 - r) * 2 ^ r := Nat.mul_le_mul_right _ h4
    rw [← h256, Nat.add_mul] at h5
    rw [hb]
    omega
  refine ⟨by rw [hb]; exact Nat.mul_mod_left _ _, hlt, hpc, ?_⟩
  have hc : (UInt8.ofNat (out[at_ / 8].toNat + piece * 2 ^ (r - n))).toNat = out[at_ / 8].toNat + piece * 2 ^ (r - n) := by
    simp only [UInt8.toNat_ofNat', Nat.reducePow]
    exact Nat.mod_eq_of_lt hlt
  rw [hc, Nat.add_mul, hv] at hs
  rw [h1] at hs
  rw [h2]
  have h6 : V * 2 ^ (8 * (m - 1 - at_ / 8) + r) = V * 2 ^ n * 2 ^ (8 * (m - 1 - at_ / 8) + (r - n)) := by
    rw [Nat.mul_assoc, ← Nat.pow_add]; congr 2; omega
  have h7 : piece * 2 ^ (r - n) * 256 ^ (m - 1 - at_ / 8) = piece * 2 ^ (8 * (m - 1 - at_ / 8) + (r - n)) := by
    rw [p256, Nat.mul_assoc, ← Nat.pow_add]; congr 2; omega
  rw [Nat.add_mul, ← h6, ← h7]
  omega
theorem laid_at {out : List UInt8} {m at_ n V piece q r d : Nat} (hq : q = at_ / 8) (hr : r = 8 - at_ % 8) (hd : d = r - n) (hm : out.length = m) (hn0 : 0 < n) (hn : n ≤ r) (hat : at_ + n ≤ 8 * m) (hp : piece < 2 ^ n) (hv : bval out = V * 2 ^ (8 * m - at_)) :
    ∃ h : q < out.length, out[q].toNat % 2 ^ r = 0 ∧ out[q].toNat + piece * 2 ^ d < 256 ∧ piece * 2 ^ d < 2 ^ r ∧ bval (out.set q (UInt8.ofNat (out[q].toNat + piece * 2 ^ d))) = (V * 2 ^ n + piece) * 2 ^ (8 * m - (at_ + n)) := by
  subst hq hr hd
  exact laid_step hm hn0 hn hat hp hv
/-- The piece of a number that comes next. -/
theorem piece_step (V0 x W k n : Nat) (hk : k ≤ W) (hn : n ≤ k) : (V0 * 2 ^ (W - k) + x / 2 ^ k) * 2 ^ n + x / 2 ^ (k - n) % 2 ^ n = V0 * 2 ^ (W - (k - n)) + x / 2 ^ (k - n) := by
  have h1 : x / 2 ^ k = x / 2 ^ (k - n) / 2 ^ n := by rw [Nat.div_div_eq_div_mul, ← Nat.pow_add]; congr 2; omega
  have h2 := Nat.div_add_mod (x / 2 ^ (k - n)) (2 ^ n)
  have h3 : 2 ^ (W - (k - n)) = 2 ^ (W - k) * 2 ^ n := by rw [← Nat.pow_add]; congr 1; omega
  rw [h1, h3, Nat.add_mul, Nat.mul_assoc, Nat.mul_comm (x / 2 ^ (k - n) / 2 ^ n)]
  omega

theorem pval_snoc (w : Nat) (l : List Nat) (x : Nat) : pval w (l ++ [x]) = pval w l * 2 ^ w + x := by
  induction l with
  | nil => simp [pval]
  | cons y r ih =>
    rw [List.cons_append, pval, pval, ih, List.length_append, List.length_singleton, Nat.mul_add, Nat.mul_one, Nat.pow_add, Nat.add_mul, Nat.mul_assoc]
    omega
theorem pval_lt {w : Nat} : ∀ {l : List Nat}, (∀ x ∈ l, x < 2 ^ w) → pval w l < 2 ^ (w * l.length)
  | [], _ => by simp [pval]
  | x :: r, h => by
    have ih := pval_lt (l := r) fun y hy => h y (by simp [hy])
    have hx : (x + 1) * 2 ^ (w * r.length) ≤ 2 ^ w * 2 ^ (w * r.length) := Nat.mul_le_mul_right _ (h x (by simp))
    rw [pval, List.length_cons, Nat.mul_add, Nat.mul_one, Nat.pow_add, Nat.mul_comm (2 ^ (w * r.length))]
    rw [Nat.add_mul] at hx
    omega
theorem pval_get {w : Nat} : ∀ {l : List Nat} (k : Nat) (hk : k < l.length), (∀ x ∈ l, x < 2 ^ w) → pval w l / 2 ^ (w * (l.length - 1 - k)) % 2 ^ w = l[k]
  | x :: r, 0, _, h => by
    have ih := pval_lt (l := r) fun y hy => h y (by simp [hy])
    have hp : 0 < 2 ^ (w * r.length) := Nat.pow_pos (by omega)
    simp only [List.getElem_cons_zero, pval, List.length_cons, Nat.add_sub_cancel, Nat.sub_zero]
    rw [Nat.mul_comm x, Nat.mul_add_div hp, Nat.div_eq_of_lt ih, Nat.add_zero, Nat.mod_eq_of_lt (h x (by simp))]
  | x :: r, k + 1, hk, h => by
    have hk' : k < r.length := by simpa using hk
    have ih := pval_get (l := r) k hk' fun y hy => h y (by simp [hy])
    simp only [List.getElem_cons_succ, pval, List.length_cons, Nat.add_sub_cancel]
    have he : r.length - (k + 1) = r.length - 1 - k := by omega
    rw [he]
    have hs : 2 ^ (w * r.length) = 2 ^ (w * (r.length - 1 - k)) * (2 ^ (w * k) * 2 ^ w) := by
      rw [← Nat.pow_add, ← Nat.pow_add]; congr 1
      rw [← Nat.mul_succ, ← Nat.mul_add]; congr 1; omega
    have hp : 0 < 2 ^ (w * (r.length - 1 - k)) := Nat.pow_pos (by omega)
    rw [hs, show x * (2 ^ (w * (r.length - 1 - k)) * (2 ^ (w * k) * 2 ^ w)) = 2 ^ (w * (r.length - 1 - k)) * (2 ^ w * (x * 2 ^ (w * k))) by
      rw [Nat.mul_left_comm, ← Nat.mul_assoc x, Nat.mul_comm (2 ^ w)], Nat.mul_add_div hp, Nat.mul_add_mod]
    exact ih

/-- The bytes of numbers that are packed. -/
def bpack (l : List Nat) (w : Nat) : List UInt8 := be (bsize l.length w) (pval w l * 2 ^ (8 * bsize l.length w - w * l.length))
theorem bsize_le (n w : Nat) : w * n ≤ 8 * bsize n w := by unfold bsize; rw [Nat.mul_comm]; omega
theorem bsize_spare (n w : Nat) : 8 * bsize n w - w * n ≤ 7 := by unfold bsize; rw [Nat.mul_comm w]; omega
theorem bpack_len (l : List Nat) (w : Nat) : (bpack l w).length = bsize l.length w := be_len _ _
theorem bval_bpack {l : List Nat} {w : Nat} (h : ∀ x ∈ l, x < 2 ^ w) : bval (bpack l w) = pval w l * 2 ^ (8 * bsize l.length w - w * l.length) := by
  rw [bpack, bval_be, Nat.mod_eq_of_lt]
  have h1 := pval_lt h
  have h2 := bsize_le l.length w
  rw [p256, show 2 ^ (8 * bsize l.length w) = 2 ^ (w * l.length) * 2 ^ (8 * bsize l.length w - w * l.length) by rw [← Nat.pow_add]; congr 1; omega]
  exact Nat.mul_lt_mul_of_pos_right h1 (Nat.pow_pos (by omega))

/-- So many bits of B, of M bits in all, behind the first at_ bits. -/
def btake (B M at_ w : Nat) : Nat := B / 2 ^ (M - (at_ + w)) % 2 ^ w
theorem btake_lt (B M at_ w : Nat) : btake B M at_ w < 2 ^ w := Nat.mod_lt _ (Nat.pow_pos (by omega))
theorem btake_zero (B M at_ : Nat) : btake B M at_ 0 = 0 := by simp [btake, Nat.mod_one]
theorem btake_add {B M at_ a n : Nat} (h : at_ + a + n ≤ M) : btake B M at_ a * 2 ^ n + btake B M (at_ + a) n = btake B M at_ (a + n) := by
  unfold btake
  have h1 : B / 2 ^ (M - (at_ + a)) = B / 2 ^ (M - (at_ + a + n)) / 2 ^ n := by rw [Nat.div_div_eq_div_mul, ← Nat.pow_add]; congr 2; omega
  rw [h1, show at_ + (a + n) = at_ + a + n by omega]
  generalize B / 2 ^ (M - (at_ + a + n)) = Y
  rw [show 2 ^ (a + n) = 2 ^ n * 2 ^ a by rw [← Nat.pow_add, Nat.add_comm], Nat.mod_mul, Nat.mul_comm]
  omega
/-- A piece of n bits out of one byte. -/
theorem btake_byte {l : List UInt8} {m at_ n : Nat} (hm : l.length = m) (hn : n ≤ 8 - at_ % 8) (hn0 : 0 < n) (hat : at_ + n ≤ 8 * m) :
    ∃ h : at_ / 8 < l.length, l[at_ / 8].toNat / 2 ^ (8 - at_ % 8 - n) % 2 ^ n = btake (bval l) (8 * m) at_ n := by
  have hk : at_ / 8 < l.length := by omega
  refine ⟨hk, ?_⟩
  rw [bval_get l (at_ / 8) hk, hm]
  unfold btake
  obtain ⟨r, hr⟩ : ∃ r, r = 8 - at_ % 8 := ⟨_, rfl⟩
  rw [← hr] at hn ⊢
  have h2 : 8 * m - (at_ + n) = 8 * (m - 1 - at_ / 8) + (r - n) := by omega
  rw [h2, Nat.pow_add, ← p256, ← Nat.div_div_eq_div_mul]
  generalize bval l / 256 ^ (m - 1 - at_ / 8) = Y
  have h256 : 256 = 2 ^ (r - n) * (2 ^ n * 2 ^ (8 - r)) := by rw [← Nat.pow_add, ← Nat.pow_add, show r - n + (n + (8 - r)) = 8 by omega]
  conv => lhs; rw [h256, Nat.mod_mul_right_div_self, Nat.mod_mul_right_mod]
/-- The numbers that bits are. -/
def bnums (B M w n : Nat) : List Nat := (List.range n).map fun i => btake B M (w * i) w
theorem bnums_len (B M w n : Nat) : (bnums B M w n).length = n := by simp [bnums]
theorem bnums_succ (B M w n : Nat) : bnums B M w (n + 1) = bnums B M w n ++ [btake B M (w * n) w] := by simp [bnums, List.range_succ]
theorem bnums_lt {B M w n : Nat} : ∀ x ∈ bnums B M w n, x < 2 ^ w := by
  intro x hx
  obtain ⟨i, _, rfl⟩ := List.mem_map.1 hx
  exact btake_lt _ _ _ _
/-- Numbers that are packed are unpacked as they were. -/
theorem bnums_bpack {l : List Nat} {w : Nat} (h : ∀ x ∈ l, x < 2 ^ w) : bnums (bval (bpack l w)) (8 * bsize l.length w) w l.length = l := by
  refine List.ext_getElem (bnums_len _ _ _ _) fun i h1 h2 => ?_
  simp only [bnums, List.getElem_map, List.getElem_range]
  rw [bval_bpack h]
  unfold btake
  have hg := pval_get i h2 h
  have hs := bsize_le l.length w
  have hi : w * i + w ≤ w * l.length := by rw [← Nat.mul_succ]; exact Nat.mul_le_mul_left _ h2
  have he : 8 * bsize l.length w - (w * i + w) = (8 * bsize l.length w - w * l.length) + w * (l.length - 1 - i) := by
    have : w * (l.length - 1 - i) + (w * i + w) = w * l.length := by rw [← Nat.mul_succ, ← Nat.mul_add]; congr 1; omega
    omega
  rw [he, Nat.pow_add, ← Nat.div_div_eq_div_mul, Nat.mul_div_cancel _ (Nat.pow_pos (by omega)), hg]
theorem bpack_spare {l : List Nat} {w : Nat} (h : ∀ x ∈ l, x < 2 ^ w) : bval (bpack l w) % 2 ^ (8 * bsize l.length w - w * l.length) = 0 := by
  rw [bval_bpack h]; exact Nat.mul_mod_left _ _
theorem btake_spare {B M n : Nat} (h : n ≤ M) : btake B M n (M - n) = B % 2 ^ (M - n) := by
  unfold btake
  rw [show M - (n + (M - n)) = 0 by omega]
  simp
end Go.Proofs.YtblpkmmhmdpkjaaGreatDoor

/- Bits of bytes in a walk: what layers 3 and 6 share. Over any program. -/





namespace Go.Proofs.YtblpkmmhmdpkjaaGreatDoor

open Go.RowKit

theorem row_set {w : World} {g : Nat} {t : TypeId} {out : List UInt8} (h : Row w g t (out.map bv)) (q C : Nat) (hC : C < 256) : Row (w.setCell ⟨g, q, none⟩ (.int .u8 (C : Int))) g t ((out.set q (UInt8.ofNat C)).map bv) := by
  have h1 := h.set_ q (.int .u8 (C : Int))
  have h2 : Value.int .u8 (C : Int) = bv (UInt8.ofNat C) := by
    unfold bv
    congr 1
    simp only [UInt8.toNat_ofNat', Nat.reducePow]
    omega
  rw [List.map_set, ← h2]
  exact h1
theorem btake_at {l : List UInt8} {m at_ n q r d : Nat} (hq : q = at_ / 8) (hr : r = 8 - at_ % 8) (hd : d = r - n) (hm : l.length = m) (hn : n ≤ r) (hn0 : 0 < n) (hat : at_ + n ≤ 8 * m) :
    ∃ h : q < l.length, l[q].toNat / 2 ^ d % 2 ^ n = btake (bval l) (8 * m) at_ n := by
  subst hq hr hd
  exact btake_byte hm hn hn0 hat
/-- Bits that don't meet are added. -/
theorem or_word (n Y P : Nat) (h0 : Y % 2 ^ n = 0) (h1 : P < 2 ^ n) (h2 : Y + P < 2 ^ 64) : bits .or .u64 (Y : Int) (P : Int) = ((Y + P : Nat) : Int) := by
  rw [u64_or _ _ (by omega) (by omega) (by omega) (by omega), Int.toNat_natCast, Int.toNat_natCast, nat_join n Y P h0 h1]
/-- The lowest n bits of a number, as the program takes them. -/
theorem and_low (x j n L : Nat) (hx : x < 2 ^ 64) (hn : n ≤ 8) (hL : L = 2 ^ n - 1) : bits .and .u64 ((x : Int) / 2 ^ j) (L : Int) = ((x / 2 ^ j % 2 ^ n : Nat) : Int) := by
  have h1 : (x : Int) / 2 ^ j = ((x / 2 ^ j : Nat) : Int) := by simp
  have h2 : 2 ^ n ≤ 2 ^ 8 := Nat.pow_le_pow_right (by omega) hn
  have h3 := Nat.div_le_self x (2 ^ j)
  rw [h1]
  generalize x / 2 ^ j = y at *
  rw [u64_and _ _ (by omega) (by omega) (by omega) (by omega), Int.toNat_natCast, Int.toNat_natCast, hL, Nat.and_two_pow_sub_one_eq_mod]
end Go.Proofs.YtblpkmmhmdpkjaaGreatDoor

/- Contracts of the small functions of layer 3, and of the reference's. -/



















namespace Go.Proofs.YtblpkmmhmdpkjaaGreatDoor

open Go.RowKit

theorem Tryz.infoU : (Tryz.prog.info? 101).map (fun i => (i.zero, i.size, i.bytes)) = some (some (uv 0), 1, 8) := by kernel_rfl
theorem elemU : Elem Tryz.prog 75 101 8 (uv 0) := by
  obtain ⟨i0, hi, hz0, hz1, hz2⟩ := info_parts Tryz.infoU
  exact ⟨Tryz.underlying75, rfl, i0, hi, hz0, hz1, hz2⟩

theorem isWidth_yes (n : Int) (w : World) (h0 : 0 ≤ n) (h1 : n ≤ 64) : Calls Tryz.prog 172 #[.int .i64 n] w fun e w' => e = .returned (.bool true) ∧ w = w' := by
  go_enter Tryz.func172, Tryz.ntmps172
  go_wp2
  go_ret
  exact ⟨rfl, rfl⟩
theorem isWidth_no (n : Int) (w : World) (h : n < 0 ∨ 64 < n) : Calls Tryz.prog 172 #[.int .i64 n] w fun e w' => e = .returned (.bool false) ∧ w = w' := by
  rcases h with h | h
  · have h2 : decide (0 ≤ n) = false := by simp; omega
    go_enter Tryz.func172, Tryz.ntmps172
    go_wp2
    go_ret
    exact ⟨rfl, rfl⟩
  · have h2 : decide (n ≤ 64) = false := by simp; omega
    have h3 : decide (0 ≤ n) = true := by simp; omega
    go_enter Tryz.func172, Tryz.ntmps172
    go_wp2
    go_ret
    exact ⟨rfl, rfl⟩
theorem isCount_yes (n : Int) (w : World) (h0 : 0 ≤ n) (h1 : n ≤ 4096) : Calls Tryz.prog 173 #[.int .i64 n] w fun e w' => e = .returned (.bool true) ∧ w = w' := by
  go_enter Tryz.func173, Tryz.ntmps173
  go_wp2
  go_ret
  exact ⟨rfl, rfl⟩
theorem isCount_no (n : Int) (w : World) (h : n < 0 ∨ 4096 < n) : Calls Tryz.prog 173 #[.int .i64 n] w fun e w' => e = .returned (.bool false) ∧ w = w' := by
  rcases h with h | h
  · have h2 : decide (0 ≤ n) = false := by simp; omega
    go_enter Tryz.func173, Tryz.ntmps173
    go_wp2
    go_ret
    exact ⟨rfl, rfl⟩
  · have h2 : decide (n ≤ 4096) = false := by simp; omega
    have h3 : decide (0 ≤ n) = true := by simp; omega
    go_enter Tryz.func173, Tryz.ntmps173
    go_wp2
    go_ret
    exact ⟨rfl, rfl⟩
theorem lowest_any (n : Nat) (w : World) (h : n ≤ 8) : Calls Tryz.prog 202 #[.int .i64 (n : Int)] w fun e w' => e = .returned (.int .u64 ((2 ^ n - 1 : Nat) : Int)) ∧ w = w' := by
  have h1 : 2 ^ n ≤ 2 ^ 8 := Nat.pow_le_pow_right (by omega) h
  have h2 : 1 ≤ 2 ^ n := Nat.one_le_two_pow
  have h3 : ((2 ^ n : Nat) : Int) = 2 ^ n := by simp
  obtain ⟨p, hp⟩ : ∃ p, p = 2 ^ n := ⟨_, rfl⟩
  have HP := Lib.hid hp
  have H1 := Lib.hid h1
  have H2 := Lib.hid h2
  have H3 := Lib.hid h3
  clear hp h1 h2 h3
  go_enter Tryz.func202, Tryz.ntmps202
  go_wp2
  go_ret
  refine ⟨ret_int ?_, rfl⟩
  have h1 := H1.out
  have h2 := H2.out
  rw [← H3.out, ← HP.out, IntKind.wrap_u64, IntKind.wrap_u64]
  rw [← HP.out] at h1 h2
  omega

theorem prod_le {m w : Nat} (hm : m ≤ 4096) (hw : w ≤ 64) : m * w ≤ 262144 := Nat.mul_le_mul hm hw
theorem size_in (m w : Nat) (W : World) (hm : m ≤ 4096) (hw : w ≤ 64) : Calls Tryz.prog 174 #[.int .i64 (m : Int), .int .i64 (w : Int)] W fun e w' => e = .returned (.int .i64 (bsize m w : Int)) ∧ W = w' := by
  obtain ⟨p, hp⟩ : ∃ p : Int, p = (m : Int) * (w : Int) := ⟨_, rfl⟩
  have hp0 : 0 ≤ (m : Int) * (w : Int) := by rw [← Int.natCast_mul]; omega
  have hp1 : (m : Int) * (w : Int) ≤ 262144 := by rw [← Int.natCast_mul]; have := prod_le hm hw; omega
  have HB : Hid ((bsize m w : Int) = ((m : Int) * (w : Int) + 7) / 8) := Lib.hid (by unfold bsize; simp)
  clear hp p
  go_enter Tryz.func174, Tryz.ntmps174
  go_wp2_with (first | (go_at_call 173; refine (isCount_yes _ _ (by omega) (by omega)).mono ?_; rintro e w' ⟨rfl, rfl⟩) | (go_at_call 172; refine (isWidth_yes _ _ (by omega) (by omega)).mono ?_; rintro e w' ⟨rfl, rfl⟩))
  go_ret
  refine ⟨ret_int ?_, rfl⟩
  rw [HB.out]
  first | rfl | (congr 1; omega)
/-- A slice that holds numbers that are not below 0. -/
def IsU (l : List Nat) (v : Value) (w : World) : Prop := ∃ A c, v = .slice A l.length c ∧ (A = none → l.length = 0) ∧ l.length ≤ c ∧ c ≤ maxLen ∧ Lies w A (l.map uv)
theorem IsU.below {l : List Nat} {v : Value} {w w' : World} (h : IsU l v w) (hb : Below w.heap.size w w') : IsU l v w' := by
  obtain ⟨A, c, h1, h2, h3, h4, h5⟩ := h
  exact ⟨A, c, h1, h2, h3, h4, h5.below hb⟩
end Go.Proofs.YtblpkmmhmdpkjaaGreatDoor

/- The contract of what putter hands out, of putter itself, and of Pack. -/







namespace Go.Proofs.YtblpkmmhmdpkjaaGreatDoor

open Go.RowKit

/-- What a putter holds: the bytes lie in block g, their slice in block b, the bit that comes next in block a. -/
structure Putter (g b a m t : Nat) (out : List UInt8) (w : World) : Prop where
  gb : g < b
  ba : b < a
  len : out.length = m
  row : Row w g 5 (out.map bv)
  box : Row w b 38 [.slice (some ⟨g, 0, none⟩) m m]
  pos : Row w a 3 [.int .i64 (t : Int)]
theorem Putter.drewN {g b a m t : Nat} {out : List UInt8} {w : World} (h : Putter g b a m t out w) (n : Nat) : Putter g b a m t out (w.drewN n) := ⟨h.gb, h.ba, h.len, h.row, h.box, h.pos⟩
def PutRel1 (g b a m t W V x : Nat) (w : World) (v : Value) (wr : World) : Prop :=
  ∃ (k : Nat) (out : List UInt8), v = .int .i64 (k : Int) ∧ k ≤ W ∧ Putter g b a m (t + W - k) out wr ∧ bval out = (V * 2 ^ (W - k) + x / 2 ^ k) * 2 ^ (8 * m - (t + W - k)) ∧ Below g w wr
def PutPost (g b a m t V : Nat) (w : World) (e : Ending) (w' : World) : Prop :=
  ∃ out, e = .returned (.tuple #[]) ∧ Putter g b a m t out w' ∧ bval out = V * 2 ^ (8 * m - t) ∧ Below g w w'

theorem Putter.step {g b a m t : Nat} {out : List UInt8} {w : World} (h : Putter g b a m t out w) (q t' C : Nat) (hC : C < 256) :
    Putter g b a m t' (out.set q (UInt8.ofNat C)) ((w.setCell ⟨g, q, none⟩ (.int .u8 (C : Int))).setCell ⟨a, 0, none⟩ (.int .i64 (t' : Int))) := by
  have hga : g ≠ a := by have := h.gb; have := h.ba; omega
  have hba : b ≠ a := by have := h.ba; omega
  have hbg : b ≠ g := by have := h.gb; omega
  refine ⟨h.gb, h.ba, by rw [List.length_set]; exact h.len, ?_, ?_, ?_⟩
  · refine Row.far ?_ hga _
    have h1 := h.row.set_ q (.int .u8 (C : Int))
    have h2 : Value.int .u8 (C : Int) = bv (UInt8.ofNat C) := by
      unfold bv
      congr 1
      simp only [UInt8.toNat_ofNat', Nat.reducePow]
      omega
    rw [List.map_set, ← h2]
    exact h1
  · exact Row.far (Row.far h.box hbg _) hba _
  · exact (Row.far h.pos (Ne.symm hga) _).set_ 0 (.int .i64 (t' : Int))
theorem lowest_q (n L : Nat) (w : World) (h : n ≤ 8) (hL : L = 2 ^ n - 1) : Calls Tryz.prog 202 #[.int .i64 (n : Int)] w fun e w' => e = .returned (.int .u64 (L : Int)) ∧ w' = w := by
  subst hL
  exact (lowest_any n w h).mono fun _ _ ⟨h1, h2⟩ => ⟨h1, h2.symm⟩
set_option maxHeartbeats 1000000 in
set_option maxRecDepth 100000 in
theorem put1_any (g b a m t W V x : Nat) (out : List UInt8) (w : World) (hp : Putter g b a m t out w) (hv : bval out = V * 2 ^ (8 * m - t)) (hW : W ≤ 64) (ht : t + W ≤ 8 * m) (hm : m ≤ 100000) (hx : x < 2 ^ W) :
    Calls Tryz.prog 201 #[.int .u64 (x : Int), .int .i64 (W : Int), .pointer (some ⟨a, 0, none⟩), .pointer (some ⟨b, 0, none⟩)] w (PutPost g b a m (t + W) (V * 2 ^ W + x) w) := by
  have HX := Lib.hid hx
  have HV := Lib.hid hv
  clear hx hv
  go_enter Tryz.func201, Tryz.ntmps201
  go_wp2
  go_loopw [1] (PutRel1 g b a m t W V x w) (fun v _ => (intOf v).toNat)
  case atStart =>
    refine ⟨W, out, rfl, Nat.le_refl _, by rw [Nat.add_sub_cancel]; exact hp, ?_, Below.refl _ _⟩
    rw [Nat.add_sub_cancel, Nat.sub_self, Nat.pow_zero, Nat.mul_one, Nat.div_eq_of_lt HX.out, Nat.add_zero]
    exact HV.out
  case round =>
    obtain ⟨k, o, rfl, hk, hP, hval, hb⟩ := hrel
    have HVal := Lib.hid hval
    clear hval
    obtain ⟨T, hT⟩ : ∃ T, T = t + W - k := ⟨_, rfl⟩
    rw [← hT] at hP
    have HT := Lib.hid hT
    clear hT
    have hc1 := hP.pos.cell 0
    have hc2 := hP.box.cell 0
    have hf1 := hP.pos.free 0
    by_cases hk0 : 0 < k
    · have hT8 : T + k ≤ 8 * m := by have := HT.out; omega
      obtain ⟨r, hr⟩ : ∃ r, r = 8 - T % 8 := ⟨_, rfl⟩
      obtain ⟨n, hn⟩ : ∃ n, n = min r k := ⟨_, rfl⟩
      obtain ⟨j, hj⟩ : ∃ j, j = k - n := ⟨_, rfl⟩
      obtain ⟨d, hd⟩ : ∃ d, d = r - n := ⟨_, rfl⟩
      obtain ⟨q, hq⟩ : ∃ q, q = T / 8 := ⟨_, rfl⟩
      have hri : IntKind.i64.wrap (8 - (T : Int) % 8) = (r : Int) := by rw [IntKind.wrap_i64]; omega
      have hmin : ∀ (ts : Array TypeId) (t : TypeId) (W : World), (Builtin.min_ ts t #[.int .i64 (r : Int), .int .i64 (k : Int)]).run Tryz.prog W = .ok (.int .i64 (n : Int)) W := fun ts t W => by
        rw [run_min_int2]
        congr 2
        split <;> omega
      have hki : IntKind.i64.wrap ((k : Int) - (n : Int)) = (j : Int) := by rw [IntKind.wrap_i64]; omega
      have hdi : IntKind.i64.wrap ((r : Int) - (n : Int)) = (d : Int) := by rw [IntKind.wrap_i64]; omega
      have hwq : IntKind.i64.wrap (q : Int) = (q : Int) := by rw [IntKind.wrap_i64]; omega
      have hqi : (T : Int) / 8 = (q : Int) := by omega
      have hqm : (q : Int) < (m : Int) := by omega
      have hr8 : r ≤ 8 := by omega
      have hn8 : n ≤ 8 := by omega
      have hd8 : d ≤ 8 := by omega
      have hj64 : j ≤ 64 := by omega
      have hn0 : 0 < n := by omega
      have hnk : n ≤ k := by omega
      have HR := Lib.hid hr
      have HN := Lib.hid hn
      have HJ := Lib.hid hj
      have HD := Lib.hid hd
      have HQ := Lib.hid hq
      clear hr hn hj hd hq
      obtain ⟨L, hL⟩ : ∃ L, L = 2 ^ n - 1 := ⟨_, rfl⟩
      have HL := Lib.hid hL
      obtain ⟨P, hP0⟩ : ∃ P, P = x / 2 ^ j % 2 ^ n := ⟨_, rfl⟩
      have hand := and_low x j n L (by have := HX.out; have : 2 ^ W ≤ 2 ^ 64 := Nat.pow_le_pow_right (by omega) hW; omega) hn8 hL
      rw [← hP0] at hand
      have HP0 := Lib.hid hP0
      clear hL hP0
      go_wp2
      go_quiet ((go_at_call 202; exact Calls.quiet_of_same (lowest_q _ L _ (by omega) HL.out)))
      go_wp2
      refine wp_region_tail 13 (by kernel_rfl) (by kernel_rfl) ?_
      have hP2 := hP.drewN (nq + 1)
      have hb2 := below_drewN hb (nq + 1)
      rw [World.drew_drewN]
      clear hc1 hc2 hf1 hP hb hand
      generalize wr.drewN (nq + 1) = w2 at *
      have hc1 := hP2.pos.cell 0
      have hc2 := hP2.box.cell 0
      have hf1 := hP2.pos.free 0
      have hqo : q < o.length := by have := hP2.len; omega
      obtain ⟨B, hB⟩ : ∃ B, B = o[q].toNat := ⟨_, rfl⟩
      have hcB : w2.cell? ⟨g, q, none⟩ = some (.int .u8 (B : Int)) := by
        rw [hP2.row.cell, List.getElem?_map, List.getElem?_eq_getElem hqo, hB]; rfl
      have hfB := hP2.row.free q
      obtain ⟨hk2, hl1, hl2, hl3, hl4⟩ := laid_at (piece := P) HQ.out HR.out HD.out hP2.len hn0 (by have := HN.out; omega) (by omega) (by rw [HP0.out]; exact Nat.mod_lt _ (Nat.pow_pos (by omega))) (by rw [HT.out]; exact HVal.out)
      rw [← hB] at hl1 hl2 hl4
      obtain ⟨S, hS⟩ : ∃ S, S = P * 2 ^ d := ⟨_, rfl⟩
      rw [← hS] at hl2 hl3 hl4
      have hsh : IntKind.u64.wrap ((P : Int) * 2 ^ d) = (S : Int) := by
        rw [IntKind.wrap_u64, show (P : Int) * 2 ^ d = (S : Int) by rw [hS]; simp]; omega
      have hs8 : IntKind.u8.wrap (S : Int) = (S : Int) := by rw [IntKind.wrap_u8]; omega
      have hs9 : (S : Int) % 256 = (S : Int) := by omega
      obtain ⟨C, hC⟩ : ∃ C, C = B + S := ⟨_, rfl⟩
      have hor := or_byte r B S hl1 hl3 hl2
      rw [← hC] at hor hl2 hl4
      have hga : g ≠ a := by have := hP2.gb; have := hP2.ba; omega
      have hc3 : (w2.setCell ⟨g, q, none⟩ (.int .u8 (C : Int))).cell? ⟨a, 0, none⟩ = some (.int .i64 (T : Int)) := (Row.far hP2.pos (Ne.symm hga) _).cell 0
      have hf3 : (w2.setCell ⟨g, q, none⟩ (.int .u8 (C : Int))).frozen? ⟨a, 0, none⟩ = false := (Row.far hP2.pos (Ne.symm hga) _).free 0
      have HL4 := Lib.hid hl4
      have HL2 := Lib.hid hl2
      clear hS hC hl1 hl2 hl3 hl4 hB
      simp only [List.take_succ_cons, List.take_zero, List.drop_succ_cons, List.drop_zero]
      repeat still_step
      refine wpStill_nil ?_
      go_wp2
      go_roundw
      case rel =>
        have hT2 : T + n = t + W - j := by have := HT.out; have := HJ.out; omega
        have hjk : j = k - n := HJ.out
        refine ⟨j, o.set q (UInt8.ofNat C), rfl, by omega, ?_, ?_, (hb2.setCell (Nat.le_refl _) _).setCell (by have := hP2.gb; have := hP2.ba; show g ≤ a; omega) _⟩
        · have h5 := hP2.step q (T + n) C HL2.out
          rw [Int.natCast_add] at h5
          rw [← hT2]
          exact h5
        · rw [HL4.out, ← hT2, HP0.out, hjk, piece_step V x W k n hk hnk]
      case measure => simp [intOf]; have := HJ.out; omega
    · obtain rfl : k = 0 := by omega
      go_wp2
      go_end0
      refine ⟨o, rfl, ?_, ?_, hb⟩
      · have := HT.out
        rw [show t + W = T by omega]
        exact hP
      · have := HVal.out
        rw [Nat.sub_zero, Nat.sub_zero, Nat.pow_zero, Nat.div_one] at this
        exact this
def PutterPost (g m : Nat) (out : List UInt8) (w : World) (e : Ending) (w' : World) : Prop :=
  e = .returned (.func (.func 201) #[] #[.pointer (some ⟨w.heap.size + 1, 0, none⟩), .pointer (some ⟨w.heap.size, 0, none⟩)]) ∧ Putter g w.heap.size (w.heap.size + 1) m 0 out w' ∧ Below w.heap.size w w'
theorem putter_any (g m : Nat) (out : List UInt8) (w : World) (hr : Row w g 5 (out.map bv)) (hl : out.length = m) :
    Calls Tryz.prog 175 #[.slice (some ⟨g, 0, none⟩) m m] w (PutterPost g m out w) := by
  have HL := Lib.hid hl
  clear hl
  go_enter Tryz.func175, Tryz.ntmps175
  go_wp2
  go_ret
  have hg := hr.lt
  have h1 : Row (w.alloc (.cells #[.slice (some ⟨g, 0, none⟩) m m] 38)) w.heap.size 38 [.slice (some ⟨g, 0, none⟩) m m] := heap_alloc_new w _
  refine ⟨rfl, ⟨hg, by omega, HL.out, (hr.alloc _).alloc _, h1.alloc _, ?_⟩, ((Below.refl _ _).alloc (Nat.le_refl _) _).alloc (by simp) _⟩
  have h2 := heap_alloc_new (w.alloc (.cells #[.slice (some ⟨g, 0, none⟩) m m] 38)) (.cells #[.int .i64 0] 3)
  have h3 : (w.alloc (.cells #[.slice (some ⟨g, 0, none⟩) m m] 38)).heap.size = w.heap.size + 1 := by simp
  rw [h3] at h2
  exact h2

/-- What is answered of numbers and a width that may be. -/
def packs (l : List Nat) (W : Nat) : List UInt8 × Int := if l.all (fun x => decide (x < 2 ^ W)) then (bpack l W, 0) else ([], 1)
theorem packs_ok {l : List Nat} {W : Nat} (h : ∀ x ∈ l, x < 2 ^ W) : packs l W = (bpack l W, 0) := by
  unfold packs; rw [if_pos (by simpa using h)]
theorem packs_no {l : List Nat} {W x : Nat} (hx : x ∈ l) (h : ¬ x < 2 ^ W) : packs l W = ([], 1) := by
  unfold packs; rw [if_neg (by simp; exact ⟨x, hx, by omega⟩)]
def PackRel (l : List Nat) (g b a m W : Nat) (w : World) (i : Value) (wr : World) : Prop :=
  ∃ (k : Nat) (out : List UInt8), i = .int .i64 (k : Int) ∧ k ≤ l.length ∧ Putter g b a m (W * k) out wr ∧ bval out = pval W (l.take k) * 2 ^ (8 * m - W * k) ∧ (∀ x ∈ l.take k, x < 2 ^ W) ∧ Below w.heap.size w wr
set_option maxHeartbeats 1000000 in
set_option maxRecDepth 100000 in
theorem pack_own (A : Option Addr) (n c : Nat) (l : List Nat) (W : Nat) (w : World) (hn : l.length = n) (hn4 : n ≤ 4096) (hW : W ≤ 64) (hl : Lies w A (l.map uv)) (h64 : ∀ x ∈ l, x < 2 ^ 64) :
    Calls Tryz.prog 140 #[.slice A n c, .int .i64 (W : Int)] w (RetEO w (packs l W)) := by
  have HN := Lib.hid hn
  have H64 := Lib.hid h64
  clear hn h64
  obtain ⟨m, hm⟩ : ∃ m, m = bsize n W := ⟨_, rfl⟩
  have hmW : W * n ≤ 8 * m := by rw [hm]; exact bsize_le n W
  have hm4 : m ≤ 32768 := by have := prod_le hn4 hW; unfold bsize at hm; omega
  have hsz := fun w => size_in n W w hn4 hW
  rw [← hm] at hsz
  have HS := Lib.hid hsz
  have HM := Lib.hid hm
  have HMW := Lib.hid hmW
  clear hsz hm hmW
  go_enter Tryz.func140, Tryz.ntmps140
  go_wp2_with (first | (go_at_call 173; refine (isCount_yes _ _ (by omega) (by omega)).mono ?_; rintro e w' ⟨rfl, rfl⟩) | (go_at_call 172; refine (isWidth_yes _ _ (by omega) (by omega)).mono ?_; rintro e w' ⟨rfl, rfl⟩) | (go_at_call 174; refine (HS.out _).mono ?_; rintro e w' ⟨rfl, rfl⟩) | (refine wpList_make elemB rfl _ _ rfl _ _ _ _ m w w.heap.size rfl rfl ?_ ?_ (by omega) (by omega) (Below.refl _ _) (Nat.le_refl _) ?_))
  · rfl
  · rfl
  intro w1 hr1 hb1
  have hr2 : Row w1 w.heap.size 5 ((List.replicate m (0 : UInt8)).map bv) := by simpa using hr1
  go_wp2_with fail
  refine (putter_any w.heap.size m (List.replicate m 0) w1 hr2 (by simp)).mono ?_
  rintro e w2 ⟨rfl, hP, hb2⟩
  obtain ⟨b, hbz⟩ : ∃ b, b = w1.heap.size := ⟨_, rfl⟩
  rw [← hbz] at hP ⊢
  have hbb : Below w.heap.size w w2 := hb1.trans (hb2.mono hb1.size)
  clear hr1 hr2 hb1 hb2 hbz
  go_wp2
  go_loopw [26] (PackRel l w.heap.size b (b + 1) m W w) (fun i _ => n - (intOf i).toNat)
  case atStart => exact ⟨0, List.replicate m 0, rfl, by omega, by rw [Nat.mul_zero]; exact hP, by rw [bval_zeros]; simp [pval], by simp, hbb⟩
  case round =>
    obtain ⟨k, out, rfl, hk, hP, hval, hall, hb⟩ := hrel
    have HV := Lib.hid hval
    have HA := Lib.hid hall
    clear hval hall
    have hk' : k ≤ n := by have := HN.out; omega
    by_cases hlt : k < n
    · have hkl : k < l.length := by have := HN.out; omega
      obtain ⟨ad, rfl, _, hcell⟩ := (hl.below hb).cell (k := k) (by simpa using hkl)
      obtain ⟨x, hx⟩ : ∃ x : Nat, x = l[k] := ⟨_, rfl⟩
      have hcx : wr.cell? (ad.add k) = some (.int .u64 (x : Int)) := by rw [hcell, List.getElem_map, hx]; rfl
      have hxm : x ∈ l := by rw [hx]; exact List.getElem_mem hkl
      have HX := Lib.hid hx
      clear hx hcell
      by_cases hx2 : x < 2 ^ W
      · have hz : (x : Int) / 2 ^ W = 0 := by
          have : ((x / 2 ^ W : Nat) : Int) = 0 := by rw [Nat.div_eq_of_lt hx2]; rfl
          simpa using this
        have hstep : W * k + W ≤ 8 * m := by
          have h1 : W * (k + 1) ≤ W * n := Nat.mul_le_mul_left _ hlt
          have := HMW.out
          rw [Nat.mul_add, Nat.mul_one] at h1
          omega
        have HX2 := Lib.hid hx2
        clear hx2
        go_wp2_with (go_at_call 201; refine (put1_any _ _ _ m _ W _ x out _ hP HV.out hW hstep (by omega) HX2.out).mono ?_; rintro e w3 ⟨out', rfl, hP', hv', hb'⟩)
        go_roundw
        case rel =>
          refine ⟨k + 1, out', by go_num, by omega, by rw [Nat.mul_add, Nat.mul_one]; exact hP', ?_, ?_, hb.trans hb'⟩
          · rw [hv', List.take_succ_eq_append_getElem hkl, pval_snoc, ← HX.out, Nat.mul_add, Nat.mul_one]
          · intro y hy
            rw [List.take_succ_eq_append_getElem hkl, List.mem_append] at hy
            rcases hy with hy | hy
            · exact HA.out y hy
            · rw [List.mem_singleton.1 hy, ← HX.out]; exact HX2.out
        case measure => simp [intOf]; omega
      · obtain ⟨y, hy⟩ : ∃ y, y = x / 2 ^ W := ⟨_, rfl⟩
        have hz : (x : Int) / 2 ^ W = (y : Int) := by rw [hy]; simp
        have hy0 : y ≠ 0 := by
          rw [hy]
          intro h
          rcases Nat.div_eq_zero_iff.1 h with h | h
          · have := Nat.two_pow_pos W; omega
          · exact hx2 h
        have d1 : ((y : Int) != 0) = true := by simpa using hy0
        have HNo := Lib.hid (packs_no hxm hx2)
        clear hx2 hy hy0
        go_wp2
        go_ret2
        rw [HNo.out]
        exact RetEO.nil _ hb
    · obtain rfl : k = n := by omega
      have hall : ∀ x ∈ l, x < 2 ^ W := by
        have := HA.out
        rw [List.take_of_length_le (by have := HN.out; omega)] at this
        exact this
      have HAll := Lib.hid hall
      clear hall
      go_wp2
      go_ret2
      rw [packs_ok HAll.out]
      have hv := HV.out
      rw [List.take_of_length_le (by have := HN.out; omega)] at hv
      have hob : out = bpack l W := by
        unfold bpack
        rw [HN.out, ← HM.out]
        exact eq_be hP.len hv
      exact ⟨_, rfl, by rw [← hob, hP.len]; exact own_of_row hP.row (by rw [List.length_map]; exact hP.len) (Nat.le_refl _) (by omega), hb⟩
/-- A width that is none. -/
theorem pack_out (A : Option Addr) (n c : Nat) (W : Int) (w : World) (hW : W < 0 ∨ 64 < W) :
    Calls Tryz.prog 140 #[.slice A n c, .int .i64 W] w (RetEO w ([], 1)) := by
  go_enter Tryz.func140, Tryz.ntmps140
  go_wp2_with (go_at_call 172; refine (isWidth_no _ _ (by omega)).mono ?_; rintro e w' ⟨rfl, rfl⟩)
  go_ret2
  exact RetEO.nil _ (Below.refl _ _)
/-- What Pack answers, of any width: 4096 numbers at most. -/
def packsAny (l : List Nat) (W : Int) : List UInt8 × Int := if W < 0 ∨ 64 < W then ([], 1) else packs l W.toNat
theorem packsAny_in (l : List Nat) (W : Nat) (h : W ≤ 64) : packsAny l W = packs l W := by unfold packsAny; rw [if_neg (by omega), Int.toNat_natCast]
theorem pack_isO {l : List Nat} {v : Value} {w : World} (W : Int) (hl : IsU l v w) (h4 : l.length ≤ 4096) (h64 : ∀ x ∈ l, x < 2 ^ 64) :
    Calls Tryz.prog 140 #[v, .int .i64 W] w (RetEO w (packsAny l W)) := by
  obtain ⟨A, c, rfl, _, _, _, h3⟩ := hl
  by_cases h : W < 0 ∨ 64 < W
  · unfold packsAny
    rw [if_pos h]
    exact pack_out _ _ _ _ _ h
  · obtain ⟨K, rfl⟩ := Int.eq_ofNat_of_zero_le (show 0 ≤ W by omega)
    rw [packsAny_in _ _ (by omega)]
    exact pack_own A _ c l K w rfl h4 (by omega) h3 h64
theorem pack_is {l : List Nat} {v : Value} {w : World} (W : Int) (hl : IsU l v w) (h4 : l.length ≤ 4096) (h64 : ∀ x ∈ l, x < 2 ^ 64) :
    Calls Tryz.prog 140 #[v, .int .i64 W] w (RetE w (packsAny l W)) := (pack_isO W hl h4 h64).mono fun _ _ h => h.e
end Go.Proofs.YtblpkmmhmdpkjaaGreatDoor

/- The contract of what taker hands out, of taker itself, and of Unpack. -/



namespace Go.Proofs.YtblpkmmhmdpkjaaGreatDoor

open Go.RowKit

/-- What a taker holds: the slice of the bytes in block b, the bit that comes next in block a; the bytes lie in older memory. -/
structure Taker (z b a m c t : Nat) (A : Option Addr) (l : List UInt8) (w : World) : Prop where
  zb : z ≤ b
  ba : b < a
  len : l.length = m
  old : ∃ w0, Lies w0 A (l.map bv) ∧ w0.heap.size ≤ z ∧ Below w0.heap.size w0 w
  box : Row w b 38 [.slice A m c]
  pos : Row w a 3 [.int .i64 (t : Int)]
theorem Taker.drewN {z b a m c t : Nat} {A : Option Addr} {l : List UInt8} {w : World} (h : Taker z b a m c t A l w) (n : Nat) : Taker z b a m c t A l (w.drewN n) :=
  ⟨h.zb, h.ba, h.len, h.old.elim fun w0 ⟨h1, h2, h3⟩ => ⟨w0, h1, h2, below_drewN h3 n⟩, h.box, h.pos⟩
theorem Taker.lies {z b a m c t : Nat} {A : Option Addr} {l : List UInt8} {w : World} (h : Taker z b a m c t A l w) : Lies w A (l.map bv) :=
  h.old.elim fun _ ⟨h1, _, h3⟩ => h1.below h3
theorem Taker.step {z b a m c t : Nat} {A : Option Addr} {l : List UInt8} {w : World} (h : Taker z b a m c t A l w) (t' : Nat) : Taker z b a m c t' A l (w.setCell ⟨a, 0, none⟩ (.int .i64 (t' : Int))) := by
  refine ⟨h.zb, h.ba, h.len, ?_, ?_, h.pos.set_ 0 _⟩
  · obtain ⟨w0, h1, h2, h3⟩ := h.old
    have := h.ba
    have := h.zb
    exact ⟨w0, h1, h2, h3.setCell (show w0.heap.size ≤ a by omega) _⟩
  · exact Row.far h.box (show b ≠ a by have := h.ba; omega) _
theorem Taker.far {z b a m c t : Nat} {A : Option Addr} {l : List UInt8} {w : World} (h : Taker z b a m c t A l w) {g : Nat} (hg : z ≤ g) (hgb : g < b) (k : Nat) (u : Value) : Taker z b a m c t A l (w.setCell ⟨g, k, none⟩ u) := by
  have := h.ba
  refine ⟨h.zb, h.ba, h.len, ?_, Row.far h.box (show b ≠ g by omega) _, Row.far h.pos (show a ≠ g by omega) _⟩
  obtain ⟨w0, h1, h2, h3⟩ := h.old
  exact ⟨w0, h1, h2, h3.setCell (show w0.heap.size ≤ g by omega) _⟩
def TakeRel1 (z b a m c t W : Nat) (A : Option Addr) (l : List UInt8) (w : World) (v x : Value) (wr : World) : Prop :=
  ∃ k : Nat, v = .int .i64 (k : Int) ∧ k ≤ W ∧ x = .int .u64 ((btake (bval l) (8 * m) t (W - k) : Nat) : Int) ∧ Taker z b a m c (t + W - k) A l wr ∧ Below a w wr
def TakePost (z b a m c t W : Nat) (A : Option Addr) (l : List UInt8) (w : World) (e : Ending) (w' : World) : Prop :=
  e = .returned (.int .u64 ((btake (bval l) (8 * m) t W : Nat) : Int)) ∧ Taker z b a m c (t + W) A l w' ∧ Below a w w'

set_option maxHeartbeats 1000000 in
set_option maxRecDepth 100000 in
theorem take1_any (z b a m c t W : Nat) (A : Option Addr) (l : List UInt8) (w : World) (hp : Taker z b a m c t A l w) (hW : W ≤ 64) (ht : t + W ≤ 8 * m) (hm : m ≤ 100000) :
    Calls Tryz.prog 203 #[.int .i64 (W : Int), .pointer (some ⟨a, 0, none⟩), .pointer (some ⟨b, 0, none⟩)] w (TakePost z b a m c t W A l w) := by
  go_enter Tryz.func203, Tryz.ntmps203
  go_wp2
  go_loopw [0, 5] (TakeRel1 z b a m c t W A l w) (fun v _ _ => (intOf v).toNat)
  case atStart => exact ⟨W, rfl, Nat.le_refl _, by rw [Nat.sub_self, btake_zero]; rfl, by rw [Nat.add_sub_cancel]; exact hp, Below.refl _ _⟩
  case round =>
    obtain ⟨k, rfl, hk, rfl, hP, hb⟩ := hrel
    obtain ⟨T, hT⟩ : ∃ T, T = t + W - k := ⟨_, rfl⟩
    rw [← hT] at hP
    obtain ⟨X, hX⟩ : ∃ X, X = btake (bval l) (8 * m) t (W - k) := ⟨_, rfl⟩
    rw [← hX]
    have HT := Lib.hid hT
    have HX := Lib.hid hX
    clear hT hX
    have hc1 := hP.pos.cell 0
    have hc2 := hP.box.cell 0
    have hf1 := hP.pos.free 0
    by_cases hk0 : 0 < k
    · have hT8 : T + k ≤ 8 * m := by have := HT.out; omega
      obtain ⟨r, hr⟩ : ∃ r, r = 8 - T % 8 := ⟨_, rfl⟩
      obtain ⟨n, hn⟩ : ∃ n, n = min r k := ⟨_, rfl⟩
      obtain ⟨j, hj⟩ : ∃ j, j = k - n := ⟨_, rfl⟩
      obtain ⟨d, hd⟩ : ∃ d, d = r - n := ⟨_, rfl⟩
      obtain ⟨q, hq⟩ : ∃ q, q = T / 8 := ⟨_, rfl⟩
      have hri : IntKind.i64.wrap (8 - (T : Int) % 8) = (r : Int) := by rw [IntKind.wrap_i64]; omega
      have hmin : ∀ (ts : Array TypeId) (t : TypeId) (W : World), (Builtin.min_ ts t #[.int .i64 (r : Int), .int .i64 (k : Int)]).run Tryz.prog W = .ok (.int .i64 (n : Int)) W := fun ts t W => by
        rw [run_min_int2]
        congr 2
        split <;> omega
      have hki : IntKind.i64.wrap ((k : Int) - (n : Int)) = (j : Int) := by rw [IntKind.wrap_i64]; omega
      have hdi : IntKind.i64.wrap ((r : Int) - (n : Int)) = (d : Int) := by rw [IntKind.wrap_i64]; omega
      have hwq : IntKind.i64.wrap (q : Int) = (q : Int) := by rw [IntKind.wrap_i64]; omega
      have hqi : (T : Int) / 8 = (q : Int) := by omega
      have hqm : (q : Int) < (m : Int) := by omega
      have hr8 : r ≤ 8 := by omega
      have hn8 : n ≤ 8 := by omega
      have hd8 : d ≤ 8 := by omega
      have hn0 : 0 < n := by omega
      have hnk : n ≤ k := by omega
      have hnr : n ≤ r := by omega
      obtain ⟨hql, htb⟩ := btake_at hq hr hd hP.len hnr hn0 (show T + n ≤ 8 * m by omega)
      have HR := Lib.hid hr
      have HJ := Lib.hid hj
      have HD := Lib.hid hd
      have HQ := Lib.hid hq
      clear hr hn hj hd hq
      obtain ⟨L, hL⟩ : ∃ L, L = 2 ^ n - 1 := ⟨_, rfl⟩
      have HL := Lib.hid hL
      obtain ⟨ad, rfl, _, hcell⟩ := hP.lies.cell (k := q) (by simpa using hql)
      obtain ⟨B, hB⟩ : ∃ B, B = l[q].toNat := ⟨_, rfl⟩
      have hB8 : (B : Int) < 256 := by have := l[q].toNat_lt; omega
      have hcB : wr.cell? (ad.add q) = some (.int .u8 (B : Int)) := by rw [hcell, List.getElem_map, hB]; rfl
      obtain ⟨P, hP0⟩ : ∃ P, P = B / 2 ^ d % 2 ^ n := ⟨_, rfl⟩
      have hand := and_low B d n L (by omega) hn8 hL
      rw [← hP0] at hand
      rw [← hB, ← hP0] at htb
      have hPn : P < 2 ^ n := by rw [hP0]; exact Nat.mod_lt _ (Nat.pow_pos (by omega))
      obtain ⟨Y, hY⟩ : ∃ Y, Y = X * 2 ^ n := ⟨_, rfl⟩
      have hsum : Y + P = btake (bval l) (8 * m) t (W - j) := by
        have h1 := btake_add (B := bval l) (M := 8 * m) (at_ := t) (a := W - k) (n := n) (by have := HT.out; omega)
        rw [hY, HX.out, htb, HT.out, show t + W - k = t + (W - k) by omega, h1]
        congr 1
        have := HJ.out
        omega
      have hlt64 : Y + P < 2 ^ 64 := by
        rw [hsum]
        have h1 := btake_lt (bval l) (8 * m) t (W - j)
        have h2 : 2 ^ (W - j) ≤ 2 ^ 64 := Nat.pow_le_pow_right (by omega) (by omega)
        omega
      have hsh : IntKind.u64.wrap ((X : Int) * 2 ^ n) = (Y : Int) := by
        rw [IntKind.wrap_u64, show (X : Int) * 2 ^ n = (Y : Int) by rw [hY]; simp]; omega
      have hor := or_word n Y P (by rw [hY]; exact Nat.mul_mod_left _ _) hPn hlt64
      rw [hsum] at hor
      obtain ⟨Z, hZ⟩ : ∃ Z, Z = btake (bval l) (8 * m) t (W - j) := ⟨_, rfl⟩
      rw [← hZ] at hor
      have HZ := Lib.hid hZ
      have HB8 := Lib.hid hB8
      clear hL hP0 hB hY hZ hsum hlt64 htb hcell hPn
      go_wp2
      go_quiet ((go_at_call 202; exact Calls.quiet_of_same (lowest_q _ L _ (by omega) HL.out)))
      have hP2 := hP.drewN nq
      have hb2 := below_drewN hb nq
      clear hc1 hc2 hf1 hP hb hand hcB
      generalize wr.drewN nq = w2 at *
      have hc1 := hP2.pos.cell 0
      have hf1 := hP2.pos.free 0
      go_wp2
      go_roundw
      case rel =>
        have hT2 : T + n = t + W - j := by have := HT.out; have := HJ.out; omega
        refine ⟨j, rfl, by have := HJ.out; omega, by rw [HZ.out], ?_, hb2.setCell (Nat.le_refl _) _⟩
        have h5 := hP2.step (T + n)
        rw [Int.natCast_add] at h5
        rw [← hT2]
        exact h5
      case measure => simp [intOf]; have := HJ.out; omega
    · obtain rfl : k = 0 := by omega
      go_wp2
      go_ret
      refine ⟨by rw [← Nat.sub_zero W, ← HX.out]; rfl, ?_, hb⟩
      have := HT.out
      rw [show t + W = T by omega]
      exact hP
def TakerPost (z m c : Nat) (A : Option Addr) (l : List UInt8) (w : World) (e : Ending) (w' : World) : Prop :=
  e = .returned (.func (.func 203) #[] #[.pointer (some ⟨w.heap.size + 1, 0, none⟩), .pointer (some ⟨w.heap.size, 0, none⟩)]) ∧ Taker z w.heap.size (w.heap.size + 1) m c 0 A l w' ∧ Below w.heap.size w w'
theorem taker_any (m c : Nat) (A : Option Addr) (l : List UInt8) (w w0 : World) (hr : Lies w0 A (l.map bv)) (hb0 : Below w0.heap.size w0 w) (hl : l.length = m) :
    Calls Tryz.prog 176 #[.slice A m c] w (TakerPost w0.heap.size m c A l w) := by
  have HL := Lib.hid hl
  clear hl
  go_enter Tryz.func176, Tryz.ntmps176
  go_wp2
  go_ret
  have h1 : Row (w.alloc (.cells #[.slice A m c] 38)) w.heap.size 38 [.slice A m c] := heap_alloc_new w _
  have hb : Below w.heap.size w ((w.alloc (.cells #[.slice A m c] 38)).alloc (.cells #[.int .i64 0] 3)) := ((Below.refl _ _).alloc (Nat.le_refl _) _).alloc (by simp) _
  refine ⟨rfl, ⟨hb0.size, by omega, HL.out, ⟨w0, hr, Nat.le_refl _, hb0.trans (hb.mono hb0.size)⟩, h1.alloc _, ?_⟩, hb⟩
  have h2 := heap_alloc_new (w.alloc (.cells #[.slice A m c] 38)) (.cells #[.int .i64 0] 3)
  have h3 : (w.alloc (.cells #[.slice A m c] 38)).heap.size = w.heap.size + 1 := by simp
  rw [h3] at h2
  exact h2

/-- What is answered of bytes, how many and a width that may be. -/
def unpacks (l : List UInt8) (M W : Nat) : List Nat × List UInt8 × Int :=
  if l.length < bsize M W then ([], [], 2) else if bval (l.take (bsize M W)) % 2 ^ (8 * bsize M W - W * M) = 0 then (bnums (bval (l.take (bsize M W))) (8 * bsize M W) W M, l.drop (bsize M W), 0) else ([], [], 2)
/-- Numbers, bytes and an error that a call answers. -/
def RetUE (w : World) (p : List Nat × List UInt8 × Int) (e : Ending) (w' : World) : Prop :=
  ∃ u v, e = .returned (.tuple #[u, v, .int .i64 p.2.2]) ∧ IsU p.1 u w' ∧ IsB p.2.1 v w' ∧ Below w.heap.size w w'
theorem isU_nil (w : World) : IsU [] (.slice none 0 0) w := ⟨none, 0, rfl, by simp, by simp, by unfold maxLen; omega, Lies.nil⟩
theorem RetUE.nil {w w' : World} (n : Int) (hb : Below w.heap.size w w') : RetUE w ([], [], n) (.returned (.tuple #[.slice none 0 0, .slice none 0 0, .int .i64 n])) w' := ⟨_, _, rfl, isU_nil _, isB_nil _, hb⟩
/-- The same, numbers and bytes in rows of the call's own. -/
def RetUO (w : World) (p : List Nat × List UInt8 × Int) (e : Ending) (w' : World) : Prop :=
  ∃ u v, e = .returned (.tuple #[u, v, .int .i64 p.2.2]) ∧ w'.ownsRow w.heap.size 101 1 u p.1.length (p.1.map uv) ∧ OwnB w p.2.1 v w' ∧ Below w.heap.size w w'
theorem RetUO.nil {w w' : World} (n : Int) (hb : Below w.heap.size w w') : RetUO w ([], [], n) (.returned (.tuple #[.slice none 0 0, .slice none 0 0, .int .i64 n])) w' := ⟨_, _, rfl, World.ownsRow_nil _ _ _ _, ⟨0, World.ownsRow_nil _ _ _ _⟩, hb⟩
end Go.Proofs.YtblpkmmhmdpkjaaGreatDoor

/- The contract of bits.Unpack. -/



namespace Go.Proofs.YtblpkmmhmdpkjaaGreatDoor

open Go.RowKit

def UnpRel (l : List UInt8) (g b a m c M W : Nat) (A : Option Addr) (w : World) (i : Value) (wr : World) : Prop :=
  ∃ k : Nat, i = .int .i64 (k : Int) ∧ k ≤ M ∧ Row wr g 101 ((bnums (bval l) (8 * m) W k).map uv ++ List.replicate (M - k) (uv 0)) ∧ Taker g b a m c (W * k) A l wr ∧ Below w.heap.size w wr
theorem bnums_set (B m W M k : Nat) (hk : k < M) : ((bnums B (8 * m) W k).map uv ++ List.replicate (M - k) (uv 0)).set k (uv (btake B (8 * m) (W * k) W)) = (bnums B (8 * m) W (k + 1)).map uv ++ List.replicate (M - (k + 1)) (uv 0) := by
  have hl : ((bnums B (8 * m) W k).map uv).length = k := by rw [List.length_map, bnums_len]
  rw [List.set_append_right _ _ (by omega), hl, Nat.sub_self, show M - k = M - (k + 1) + 1 by omega, List.replicate_succ, List.set_cons_zero, bnums_succ, List.map_append, List.append_assoc]
  rfl

set_option maxHeartbeats 2000000 in
set_option maxRecDepth 100000 in
theorem unpack_own (A : Option Addr) (n c : Nat) (l : List UInt8) (M W : Nat) (w : World) (hA : A = none → n = 0) (hn : l.length = n) (hnc : n ≤ c) (hnb : n ≤ 1000000) (hM : M ≤ 4096) (hW : W ≤ 64) (hl : Lies w A (l.map bv)) :
    Calls Tryz.prog 144 #[.slice A n c, .int .i64 (M : Int), .int .i64 (W : Int)] w (RetUO w (unpacks l M W)) := by
  have HN := Lib.hid hn
  clear hn
  obtain ⟨m, hm⟩ : ∃ m, m = bsize M W := ⟨_, rfl⟩
  have hmW : W * M ≤ 8 * m := by rw [hm]; exact bsize_le M W
  have hm4 : m ≤ 32768 := by have := prod_le hM hW; unfold bsize at hm; omega
  obtain ⟨p, hp⟩ : ∃ p, p = W * M := ⟨_, rfl⟩
  have hp4 : p ≤ 262144 := by rw [hp, Nat.mul_comm]; exact prod_le hM hW
  obtain ⟨s, hs⟩ : ∃ s, s = 8 * m - p := ⟨_, rfl⟩
  have hs7 : s ≤ 7 := by rw [hs, hp, hm]; exact bsize_spare M W
  have hpm : p + s = 8 * m := by omega
  have hmul : (M : Int) * (W : Int) = (p : Int) := by rw [hp, Nat.mul_comm]; simp
  have hsz := fun w => size_in M W w hM hW
  rw [← hm] at hsz
  have HS := Lib.hid hsz
  have HM := Lib.hid hm
  have HMW := Lib.hid hmW
  have HP := Lib.hid hp
  have HPM := Lib.hid hpm
  clear hsz hm hmW hp hs hpm
  by_cases hsh : n < m
  · have hun : unpacks l M W = ([], [], 2) := by unfold unpacks; rw [if_pos (by rw [HN.out, ← HM.out]; exact hsh)]
    have HU := Lib.hid hun
    clear hun
    go_enter Tryz.func144, Tryz.ntmps144
    go_wp2_with (first | (go_at_call 173; refine (isCount_yes _ _ (by omega) (by omega)).mono ?_; rintro e w' ⟨rfl, rfl⟩) | (go_at_call 172; refine (isWidth_yes _ _ (by omega) (by omega)).mono ?_; rintro e w' ⟨rfl, rfl⟩) | (go_at_call 174; refine (HS.out _).mono ?_; rintro e w' ⟨rfl, rfl⟩))
    go_ret3
    rw [HU.out]
    exact RetUO.nil _ (Below.refl _ _)
  · have hmn : m ≤ n := by omega
    obtain ⟨l', hl'⟩ : ∃ l', l' = l.take m := ⟨_, rfl⟩
    have hl'm : l'.length = m := by rw [hl', List.length_take]; have := HN.out; omega
    have hlies' : Lies w A (l'.map bv) := by rw [hl', List.map_take]; exact hl.take m
    have HL' := Lib.hid hl'
    have HLM := Lib.hid hl'm
    clear hl' hl'm
    go_enter Tryz.func144, Tryz.ntmps144
    go_wp2_with (first | (go_at_call 173; refine (isCount_yes _ _ (by omega) (by omega)).mono ?_; rintro e w' ⟨rfl, rfl⟩) | (go_at_call 172; refine (isWidth_yes _ _ (by omega) (by omega)).mono ?_; rintro e w' ⟨rfl, rfl⟩) | (go_at_call 174; refine (HS.out _).mono ?_; rintro e w' ⟨rfl, rfl⟩) | (refine wpList_make elemU rfl _ _ rfl _ _ _ _ M w w.heap.size rfl rfl ?_ ?_ (by omega) (by omega) (Below.refl _ _) (Nat.le_refl _) ?_))
    · rfl
    · rfl
    intro w1 hr1 hb1
    go_wp2_with fail
    refine (taker_any m c A l' w1 w hlies' hb1 HLM.out).mono ?_
    rintro e w2 ⟨rfl, hP, hb2⟩
    obtain ⟨b, hbz⟩ : ∃ b, b = w1.heap.size := ⟨_, rfl⟩
    have hr2 := hr1.below hb2 hr1.lt
    have hgb : w.heap.size < b := by rw [hbz]; exact hr1.lt
    rw [← hbz] at hP ⊢
    have hbb : Below w.heap.size w w2 := hb1.trans (hb2.mono hb1.size)
    clear hr1 hb1 hb2 hbz
    go_wp2
    go_loopw [37] (UnpRel l' w.heap.size b (b + 1) m c M W A w) (fun i _ => M - (intOf i).toNat)
    case atStart => exact ⟨0, rfl, by omega, by simpa [bnums] using hr2, by rw [Nat.mul_zero]; exact hP, hbb⟩
    case round =>
      obtain ⟨k, rfl, hk, hr, hP, hb⟩ := hrel
      clear hr2 hbb
      by_cases hlt : k < M
      · have hstep : W * k + W ≤ 8 * m := by
          have h1 : W * (k + 1) ≤ W * M := Nat.mul_le_mul_left _ hlt
          have := HMW.out
          rw [Nat.mul_add, Nat.mul_one] at h1
          omega
        go_wp2_with fail
        refine (take1_any _ _ _ m c _ W A l' _ hP hW hstep (by omega)).mono ?_
        rintro e w3 ⟨rfl, hP', hb'⟩
        obtain ⟨Z, hZ⟩ : ∃ Z, Z = btake (bval l') (8 * m) (W * k) W := ⟨_, rfl⟩
        have hr3 := hr.below hb' (by omega)
        have hb3 := hb.trans (hb'.mono (by omega))
        have hf3 := hr3.free k
        have hset := hr3.set_ k (uv Z)
        rw [hZ, bnums_set _ _ _ _ _ hlt] at hset
        rw [← hZ]
        have hc3 : ∃ u, w3.cell? ⟨w.heap.size, k, none⟩ = some u := by
          rw [hr3.cell]
          exact ⟨_, List.getElem?_eq_getElem (by simp [bnums_len]; omega)⟩
        obtain ⟨u, hc3⟩ := hc3
        have hP3 := hP'.far (Nat.le_refl w.heap.size) hgb k (uv Z)
        have hb4 := hb3.setCell (p := ⟨w.heap.size, k, none⟩) (Nat.le_refl _) (uv Z)
        have HSet := Lib.hid hset
        rw [← hZ] at HSet
        clear hset hZ hP hr hb hb' hr3 hb3
        go_wp2
        go_roundw
        case rel => exact ⟨k + 1, by go_num, by omega, HSet.out, by rw [Nat.mul_add, Nat.mul_one]; exact hP3, hb4⟩
        case measure => simp [intOf]; omega
      · obtain rfl : k = M := by omega
        have hsub : (m : Int) * 8 - (p : Int) = (s : Int) := by have := HPM.out; omega
        have hsub2 : IntKind.i64.wrap ((m : Int) * 8 - (p : Int)) = (s : Int) := by rw [hsub, IntKind.wrap_i64]; omega
        have hwp : IntKind.i64.wrap (p : Int) = (p : Int) := by rw [IntKind.wrap_i64]; omega
        rw [← HP.out] at hP
        go_wp2_with fail
        refine (take1_any _ _ _ m c _ s A l' _ hP (by omega) (by have := HPM.out; omega) (by omega)).mono ?_
        rintro e w3 ⟨rfl, hP', hb'⟩
        have hr3 := hr.below hb' (by omega)
        have hb3 := hb.trans (hb'.mono (by omega))
        rw [Nat.sub_self, List.replicate_zero, List.append_nil] at hr3
        obtain ⟨Z, hZ⟩ : ∃ Z, Z = btake (bval l') (8 * m) p s := ⟨_, rfl⟩
        have hZ2 : Z = bval l' % 2 ^ s := by
          have h1 := HPM.out
          rw [hZ, show s = 8 * m - p by omega]
          exact btake_spare (by omega)
        have hun : unpacks l k W = if Z = 0 then (bnums (bval l') (8 * m) W k, l.drop m, 0) else ([], [], 2) := by
          have h1 := HPM.out
          have h2 := HP.out
          unfold unpacks
          rw [← HM.out, if_neg (by rw [HN.out]; omega), ← HL'.out, ← h2, show 8 * m - p = s by omega, ← hZ2]
        rw [← hZ]
        clear hZ hZ2 hsub hsub2 hwp hmul hP' hb' hP hr hb
        by_cases hZ0 : Z = 0
        · subst hZ0
          rw [if_pos rfl] at hun
          have HU := Lib.hid hun
          clear hun
          have hl3 := hl.below hb3
          have hml : (l.map bv).length = n := by rw [List.length_map]; exact HN.out
          have HML := Lib.hid hml
          clear hml
          go_wp2_with (refine wpList_from elemB rfl _ _ rfl A n c m (l.map bv) rfl rfl hmn hnc HML.out hl3 hA ?_)
          intro B hlB hB
          have hdl : ((l.map bv).drop m).length = n - m := by rw [List.length_drop, HML.out]
          have HDL := Lib.hid hdl
          clear hdl
          go_wp2_with (at_builtin; refine wpList_join elemB rfl _ _ rfl w3.heap.size _ _ _ _ _ _ ((l.map bv).drop m) w3 rfl rfl hB HDL.out hlB (by rw [← List.map_drop]; exact bv_one _) (World.ownsRow_nil _ _ _ _) (Below.refl _ _) (Nat.le_refl _) (by omega) (by omega) ?_)
          intro v4 w4 hown4 hb4 _ _
          go_wp2
          go_ret3
          rw [HU.out]
          refine ⟨_, _, rfl, by rw [bnums_len]; exact own_of_row (hr3.below hb4 hr3.lt) (by rw [List.length_map]; exact bnums_len _ _ _ _) (by omega) (by omega), ?_, below_then hb3 hb4⟩
          rw [← List.map_drop] at hown4
          exact ⟨_, own_base hb3.size hown4⟩
        · rw [if_neg hZ0] at hun
          have HU := Lib.hid hun
          have d1 : ((Z : Int) != 0) = true := by simpa using hZ0
          clear hun hZ0
          go_wp2
          go_ret3
          rw [HU.out]
          exact RetUO.nil _ hb3
/-- How many, or a width, that is none. -/
theorem unpack_out (A : Option Addr) (n c : Nat) (M W : Int) (w : World) (h : ¬ (0 ≤ M ∧ M ≤ 4096 ∧ 0 ≤ W ∧ W ≤ 64)) :
    Calls Tryz.prog 144 #[.slice A n c, .int .i64 M, .int .i64 W] w (RetUO w ([], [], 1)) := by
  rcases (by omega : (M < 0 ∨ 4096 < M) ∨ ((0 ≤ M ∧ M ≤ 4096) ∧ (W < 0 ∨ 64 < W))) with h | ⟨h1, h⟩
  · go_enter Tryz.func144, Tryz.ntmps144
    go_wp2_with (go_at_call 173; refine (isCount_no _ _ (by omega)).mono ?_; rintro e w' ⟨rfl, rfl⟩)
    go_ret3
    exact RetUO.nil _ (Below.refl _ _)
  · go_enter Tryz.func144, Tryz.ntmps144
    go_wp2_with (first | (go_at_call 173; refine (isCount_yes _ _ (by omega) (by omega)).mono ?_; rintro e w' ⟨rfl, rfl⟩) | (go_at_call 172; refine (isWidth_no _ _ (by omega)).mono ?_; rintro e w' ⟨rfl, rfl⟩))
    go_ret3
    exact RetUO.nil _ (Below.refl _ _)
/-- What Unpack answers, of any two numbers. -/
def unpacksAny (l : List UInt8) (M W : Int) : List Nat × List UInt8 × Int := if 0 ≤ M ∧ M ≤ 4096 ∧ 0 ≤ W ∧ W ≤ 64 then unpacks l M.toNat W.toNat else ([], [], 1)
theorem unpacksAny_in (l : List UInt8) (M W : Nat) (hM : M ≤ 4096) (hW : W ≤ 64) : unpacksAny l M W = unpacks l M W := by
  unfold unpacksAny
  rw [if_pos (by omega), Int.toNat_natCast, Int.toNat_natCast]
theorem unpacks_back {l : List Nat} {W : Nat} (h : ∀ x ∈ l, x < 2 ^ W) (b : List UInt8) : unpacks (bpack l W ++ b) l.length W = (l, b, 0) := by
  have hlen := bpack_len l W
  have ht : (bpack l W ++ b).take (bsize l.length W) = bpack l W := by rw [← hlen]; simp
  have hd : (bpack l W ++ b).drop (bsize l.length W) = b := by rw [← hlen]; simp
  unfold unpacks
  rw [if_neg (by rw [List.length_append, hlen]; omega), ht, hd, if_pos (bpack_spare h), bnums_bpack h]
theorem unpack_isO {l : List UInt8} {v : Value} {w : World} (M W : Int) (hl : IsB l v w) (h4 : l.length ≤ 1000000) :
    Calls Tryz.prog 144 #[v, .int .i64 M, .int .i64 W] w (RetUO w (unpacksAny l M W)) := by
  obtain ⟨A, c, rfl, h1, h2, _, h3⟩ := hl
  by_cases h : 0 ≤ M ∧ M ≤ 4096 ∧ 0 ≤ W ∧ W ≤ 64
  · obtain ⟨K, rfl⟩ := Int.eq_ofNat_of_zero_le (show 0 ≤ M by omega)
    obtain ⟨J, rfl⟩ := Int.eq_ofNat_of_zero_le (show 0 ≤ W by omega)
    rw [unpacksAny_in _ _ _ (by omega) (by omega)]
    exact unpack_own A _ c l K J w h1 rfl h2 h4 (by omega) (by omega) h3
  · unfold unpacksAny
    rw [if_neg h]
    exact unpack_out _ _ _ _ _ _ h
end Go.Proofs.YtblpkmmhmdpkjaaGreatDoor

/- The contract of the reference's Pack. -/



namespace Go.Proofs.YtblpkmmhmdpkjaaGreatDoor

open Go.RowKit

end Go.Proofs.YtblpkmmhmdpkjaaGreatDoor

/- The contract of the reference's Unpack. -/





namespace Go.Proofs.YtblpkmmhmdpkjaaGreatDoor

open Go.RowKit

end Go.Proofs.YtblpkmmhmdpkjaaGreatDoor

/- Numbers laid down in as few bytes as they need, as plain functions on lists of bytes, and what follows of them. No program is named here. -/



namespace Go.Proofs.YtblpkmmhmdpkjaaGreatDoor

/-- The bytes of a number: seven bits a byte, the lowest first (f: at least as many steps as are wanted). -/
def vputF : Nat → Nat → List UInt8
  | 0, x => [UInt8.ofNat x]
  | f + 1, x => if x < 128 then [UInt8.ofNat x] else UInt8.ofNat (x % 128 + 128) :: vputF f (x / 128)
def vput (x : Nat) : List UInt8 := vputF x x

/-- May a number's last byte be c at place i? -/
def vend (i c : Nat) : Bool := if i = 9 then c == 1 else c != 0 || i == 0

/-- What is read off the front of bytes, at place i. -/
def vgo : Nat → List UInt8 → Option (Nat × List UInt8)
  | _, [] => none
  | i, c :: r => if c.toNat < 128 then (if vend i c.toNat = true then some (c.toNat, r) else none) else if 9 ≤ i then none else (vgo (i + 1) r).map fun p => (c.toNat - 128 + 128 * p.1, p.2)

def vtake (l : List UInt8) : Option (Nat × List UInt8) := vgo 0 l

theorem vputF_any : ∀ (f g x : Nat), x ≤ f → x ≤ g → vputF f x = vputF g x := by
  intro f
  induction f with
  | zero =>
    intro g x hf _
    obtain rfl : x = 0 := by omega
    cases g with
    | zero => rfl
    | succ g => show [UInt8.ofNat 0] = if 0 < 128 then _ else _; rw [if_pos (by omega)]
  | succ f ih =>
    intro g x hf hg
    cases g with
    | zero =>
      obtain rfl : x = 0 := by omega
      show (if 0 < 128 then _ else _) = [UInt8.ofNat 0]; rw [if_pos (by omega)]
    | succ g =>
      show (if x < 128 then _ else _) = (if x < 128 then _ else _)
      by_cases h : x < 128
      · rw [if_pos h, if_pos h]
      · rw [if_neg h, if_neg h, ih g (x / 128) (by omega) (by omega)]
theorem vput_lt {x : Nat} (h : x < 128) : vput x = [UInt8.ofNat x] := by
  unfold vput
  cases x with
  | zero => rfl
  | succ n => show (if n + 1 < 128 then _ else _) = _; rw [if_pos h]
theorem vput_ge {x : Nat} (h : 128 ≤ x) : vput x = UInt8.ofNat (x % 128 + 128) :: vput (x / 128) := by
  unfold vput
  cases x with
  | zero => omega
  | succ n =>
    show (if n + 1 < 128 then _ else _) = _
    rw [if_neg (by omega), vputF_any n ((n + 1) / 128) ((n + 1) / 128) (by omega) (by omega)]
theorem vput_len_pos (x : Nat) : 1 ≤ (vput x).length := by
  by_cases h : x < 128
  · rw [vput_lt h]; simp
  · rw [vput_ge (by omega)]; simp

/-- n bytes are enough just below 128 ^ n. -/
theorem vput_len_le (n : Nat) : ∀ x, x < 128 ^ (n + 1) → (vput x).length ≤ n + 1 := by
  induction n with
  | zero => intro x h; rw [vput_lt (by simpa using h)]; simp
  | succ n ih =>
    intro x h
    by_cases hx : x < 128
    · rw [vput_lt hx]; simp
    · rw [vput_ge (by omega), List.length_cons]
      have := ih (x / 128) (by rw [Nat.pow_succ] at h; omega)
      omega
theorem vput_len_10 {x : Nat} (h : x < 18446744073709551616) : (vput x).length ≤ 10 := vput_len_le 9 x (by
  have : (128 : Nat) ^ 10 = 1180591620717411303424 := by decide
  show x < 128 ^ 10
  omega)

/-- The k-th byte, if it is not the last. -/
theorem vput_drop (k : Nat) : ∀ x, k < (vput x).length → (vput x).drop k = vput (x / 128 ^ k) := by
  induction k with
  | zero => intro x _; simp
  | succ k ih =>
    intro x h
    by_cases hx : x < 128
    · rw [vput_lt hx] at h; simp at h
    · rw [vput_ge (by omega)] at h ⊢
      rw [List.drop_succ_cons, ih _ (by simpa using h), Nat.div_div_eq_div_mul, Nat.pow_succ, Nat.mul_comm]
theorem vput_getElem (k x : Nat) (h : k + 1 < (vput x).length) : (vput x)[k]'(by omega) = UInt8.ofNat (x / 128 ^ k % 128 + 128) ∧ 128 ≤ x / 128 ^ k := by
  have hd := vput_drop k x (by omega)
  have hx : 128 ≤ x / 128 ^ k := by
    by_cases hx : x / 128 ^ k < 128
    · rw [vput_lt hx] at hd
      have := congrArg List.length hd
      simp at this
      omega
    · omega
  refine ⟨?_, hx⟩
  rw [vput_ge hx, List.drop_eq_getElem_cons (by omega)] at hd
  injection hd
theorem vput_last (k x : Nat) (h : k + 1 = (vput x).length) : (vput x)[k]'(by omega) = UInt8.ofNat (x / 128 ^ k) ∧ x / 128 ^ k < 128 := by
  have hd := vput_drop k x (by omega)
  have hx : x / 128 ^ k < 128 := by
    by_cases hx : x / 128 ^ k < 128
    · exact hx
    · rw [vput_ge (x := x / 128 ^ k) (by omega)] at hd
      have h1 := congrArg List.length hd
      have h2 := vput_len_pos (x / 128 ^ k / 128)
      rw [List.length_drop, List.length_cons] at h1
      omega
  refine ⟨?_, hx⟩
  rw [vput_lt hx, List.drop_eq_getElem_cons (by omega)] at hd
  injection hd

theorem vput_take_last (j x : Nat) (h : j + 1 = (vput x).length) : (vput x).take j ++ [UInt8.ofNat (x / 128 ^ j)] = vput x := by
  obtain ⟨h4, _⟩ := vput_last j x h
  have h8 := List.take_succ_eq_append_getElem (l := vput x) (i := j) (by omega)
  rw [List.take_of_length_le (by omega), h4] at h8
  exact h8.symm

theorem bitLen_or_one {y : Nat} (h0 : y ≠ 0) (h : y < 2 ^ 64) : Lib.bitLen (y ||| 1) = Lib.bitLen y := by
  have h2 : (y ||| 1) / 2 = y / 2 := by
    have h3 : (y ||| 1) >>> 1 = y >>> 1 := by
      rw [Nat.shiftRight_or_distrib]; simp
    simpa [Nat.shiftRight_succ] using h3
  have h4 : y ||| 1 < 2 ^ 64 := Nat.or_lt_two_pow h (by decide)
  have h5 : y ||| 1 ≠ 0 := by
    intro h6
    have := Nat.left_le_or (n := y) (m := 1)
    omega
  rw [Lib.bitLen_half _ h5 h4, Lib.bitLen_half _ h0 h, h2]

theorem bitLen_small : ∀ n : Fin 128, (Lib.bitLen (n.val ||| 1) + 6) / 7 = 1 := by decide +kernel

theorem bitLen_vput (x : Nat) : x < 2 ^ 64 → (Lib.bitLen (x ||| 1) + 6) / 7 = (vput x).length := by
  induction x using Nat.strongRecOn with
  | ind x ih =>
    intro hx
    by_cases h : x < 128
    · rw [vput_lt h]; exact bitLen_small ⟨x, h⟩
    · rw [vput_ge (by omega), List.length_cons, ← ih (x / 128) (by omega) (by omega), bitLen_or_one (by omega) hx, bitLen_or_one (by omega) (by omega),
        Lib.bitLen_shift 7 x (by omega) hx]
      show (7 + Lib.bitLen (x / 128) + 6) / 7 = _
      omega

/-- The number that bytes come to, seven bits a byte. -/
def vsum : List UInt8 → Nat
  | [] => 0
  | c :: r => c.toNat % 128 + 128 * vsum r
theorem vsum_append (a b : List UInt8) : vsum (a ++ b) = vsum a + 128 ^ a.length * vsum b := by
  induction a with
  | nil => simp [vsum]
  | cons c a ih => simp only [List.cons_append, vsum, ih, List.length_cons, Nat.pow_succ, Nat.mul_add, Nat.mul_comm (128 ^ a.length) 128, Nat.mul_assoc]; omega
theorem vsum_lt (a : List UInt8) : vsum a < 128 ^ a.length := by
  induction a with
  | nil => simp [vsum]
  | cons c a ih => simp only [vsum, List.length_cons, Nat.pow_succ]; omega

theorem pow_le_of_lt {i x : Nat} (h : x * 128 ^ i < 18446744073709551616) (hx : 128 ≤ x) : i ≤ 8 := by
  by_cases hi : 9 ≤ i
  · have h1 : (128 : Nat) ^ 9 ≤ 128 ^ i := Nat.pow_le_pow_right (by omega) hi
    have h2 : (128 : Nat) ^ 9 = 9223372036854775808 := by decide
    have h3 : 128 * 9223372036854775808 ≤ x * 128 ^ i := Nat.mul_le_mul hx (by omega)
    omega
  · omega

/-- What was put is taken as it was. -/
theorem vgo_put (r : List UInt8) (x : Nat) : ∀ i, i ≤ 9 → x * 128 ^ i < 18446744073709551616 → (i = 0 ∨ x ≠ 0) → vgo i (vput x ++ r) = some (x, r) := by
  induction x using Nat.strongRecOn with
  | ind x ih =>
    intro i hi hx h0
    by_cases h : x < 128
    · rw [vput_lt h]
      have h1 : (UInt8.ofNat x).toNat = x := by simp; omega
      have h2 : vend i x = true := by
        unfold vend
        by_cases h9 : i = 9
        · subst h9
          rw [if_pos rfl]
          have h2 : (128 : Nat) ^ 9 = 9223372036854775808 := by decide
          rw [h2] at hx
          have : x = 1 := by omega
          simp [this]
        · rw [if_neg h9]
          simp; omega
      simp only [List.cons_append, List.nil_append, vgo, h1, if_pos h, if_pos h2]
    · have h8 := pow_le_of_lt hx (by omega)
      rw [vput_ge (by omega)]
      have h1 : (UInt8.ofNat (x % 128 + 128)).toNat = x % 128 + 128 := by simp; omega
      have h3 : x / 128 * 128 ^ (i + 1) < 18446744073709551616 := by
        rw [Nat.pow_succ, Nat.mul_comm (128 ^ i) 128, ← Nat.mul_assoc]
        exact Nat.lt_of_le_of_lt (Nat.mul_le_mul_right _ (by omega)) hx
      simp only [List.cons_append, vgo, h1, if_neg (show ¬ x % 128 + 128 < 128 by omega), if_neg (show ¬ 9 ≤ i by omega), ih (x / 128) (by omega) (i + 1) (by omega) h3 (by omega), Option.map_some]
      congr 2
      omega
theorem vtake_put {x : Nat} (h : x < 18446744073709551616) (r : List UInt8) : vtake (vput x ++ r) = some (x, r) := vgo_put r x 0 (by omega) (by simpa using h) (.inl rfl)

/-- What is taken stands there as it is put. -/
theorem vgo_some : ∀ (l : List UInt8) (i x : Nat) (r : List UInt8), i ≤ 9 → vgo i l = some (x, r) → l = vput x ++ r ∧ x * 128 ^ i < 18446744073709551616 ∧ (i = 0 ∨ x ≠ 0) := by
  intro l
  induction l with
  | nil => intro i x r _ h; simp [vgo] at h
  | cons c l ih =>
    intro i x r hi h
    rw [vgo] at h
    have hc := c.toNat_lt
    by_cases h1 : c.toNat < 128
    · rw [if_pos h1] at h
      by_cases h2 : vend i c.toNat = true
      · rw [if_pos h2] at h
        injection h with h
        injection h with hx hr
        subst hx hr
        refine ⟨by rw [vput_lt h1]; simp, ?_, ?_⟩
        · unfold vend at h2
          by_cases h9 : i = 9
          · subst h9
            rw [if_pos rfl] at h2
            have h3 : c.toNat = 1 := by simpa using h2
            rw [h3]
            decide
          · have h4 : (128 : Nat) ^ i ≤ 128 ^ 8 := Nat.pow_le_pow_right (by omega) (by omega)
            have h5 : (128 : Nat) ^ 8 = 72057594037927936 := by decide
            have h6 : c.toNat * 128 ^ i ≤ 127 * 72057594037927936 := Nat.mul_le_mul (by omega) (by omega)
            omega
        · unfold vend at h2
          by_cases h9 : i = 9
          · subst h9
            rw [if_pos rfl] at h2
            have h3 : c.toNat = 1 := by simpa using h2
            omega
          · rw [if_neg h9] at h2
            simp at h2
            omega
      · rw [if_neg h2] at h; cases h
    · rw [if_neg h1] at h
      by_cases h9 : 9 ≤ i
      · rw [if_pos h9] at h; cases h
      · rw [if_neg h9] at h
        cases h3 : vgo (i + 1) l with
        | none => rw [h3] at h; simp at h
        | some p =>
          obtain ⟨x', r'⟩ := p
          rw [h3] at h
          simp at h
          obtain ⟨hx, rfl⟩ := h
          obtain ⟨hl, hb, h0⟩ := ih (i + 1) x' r' (by omega) h3
          have hx0 : x' ≠ 0 := by omega
          refine ⟨?_, ?_, by omega⟩
          · rw [vput_ge (by omega), show x / 128 = x' by omega, List.cons_append, ← hl]
            congr 1
            apply UInt8.toNat_inj.1
            simp
            omega
          · have hp : (128 : Nat) ^ (i + 1) * 128 ^ (8 - i) = 9223372036854775808 := by
              rw [← Nat.pow_add, show i + 1 + (8 - i) = 9 by omega]
            have hq : 18446744073709551616 = 128 ^ (i + 1) * (128 ^ (8 - i) * 2) := by rw [← Nat.mul_assoc, hp]
            have h5 : x' + 1 ≤ 128 ^ (8 - i) * 2 := by
              rw [hq, Nat.mul_comm] at hb
              exact Nat.lt_of_mul_lt_mul_left hb
            have h6 : x * 128 ^ i < (x' + 1) * 128 ^ (i + 1) := by
              rw [Nat.pow_succ, Nat.mul_comm (128 ^ i) 128, ← Nat.mul_assoc]
              exact Nat.mul_lt_mul_of_pos_right (by omega) (Nat.pow_pos (by omega))
            have h7 : (x' + 1) * 128 ^ (i + 1) ≤ 18446744073709551616 := by
              rw [hq, Nat.mul_comm]; exact Nat.mul_le_mul_left _ h5
            omega
theorem vtake_some {l : List UInt8} {x : Nat} {r : List UInt8} (h : vtake l = some (x, r)) : l = vput x ++ r ∧ x < 18446744073709551616 := by
  obtain ⟨h1, h2, _⟩ := vgo_some l 0 x r (by omega) h
  exact ⟨h1, by simpa using h2⟩
/-- The program's way to take: k bytes with their highest bit are read. -/
theorem vtake_step : ∀ (k : Nat) (l : List UInt8), k ≤ 9 → k ≤ l.length → (∀ j (h : j < l.length), j < k → 128 ≤ l[j].toNat) →
    vtake l = (vgo k (l.drop k)).map fun p => (vsum (l.take k) + 128 ^ k * p.1, p.2) := by
  intro k
  induction k with
  | zero => intro l _ _ _; simp only [List.drop_zero, List.take_zero, vsum, vtake]; cases vgo 0 l <;> simp
  | succ k ih =>
    intro l h9 hl hhi
    rw [ih l (by omega) (by omega) (fun j h hj => hhi j h (by omega))]
    have hk : k < l.length := by omega
    have h1 := hhi k hk (by omega)
    have hc := (l[k]).toNat_lt
    rw [List.drop_eq_getElem_cons hk, vgo, if_neg (by omega), if_neg (by omega), List.take_succ_eq_append_getElem hk, vsum_append, List.length_take, Nat.min_eq_left (by omega)]
    cases vgo (k + 1) (l.drop (k + 1)) with
    | none => rfl
    | some p =>
      simp only [Option.map_some, vsum, Option.some.injEq, Prod.mk.injEq, and_true, Nat.pow_succ, Nat.mul_add, Nat.mul_zero, Nat.add_zero]
      rw [show l[k].toNat % 128 = l[k].toNat - 128 by omega, ← Nat.mul_assoc (128 ^ k)]
      omega
theorem vtake_end {l : List UInt8} {k : Nat} (h9 : k ≤ 9) (hl : k < l.length) (hhi : ∀ j (h : j < l.length), j < k → 128 ≤ l[j].toNat) (hlo : l[k].toNat < 128) :
    vtake l = if vend k l[k].toNat = true then some (vsum (l.take k) + 128 ^ k * l[k].toNat, l.drop (k + 1)) else none := by
  rw [vtake_step k l h9 (by omega) hhi, List.drop_eq_getElem_cons hl, vgo, if_pos hlo]
  split <;> rfl
theorem vtake_long {l : List UInt8} (hl : 10 ≤ l.length) (hhi : ∀ j (h : j < l.length), j < 10 → 128 ≤ l[j].toNat) : vtake l = none := by
  have h1 := hhi 9 (by omega) (by omega)
  rw [vtake_step 9 l (by omega) (by omega) (fun j h hj => hhi j h (by omega)), List.drop_eq_getElem_cons (by omega), vgo, if_neg (by omega), if_pos (by omega)]
  rfl
theorem vtake_all {l : List UInt8} (hl : l.length < 10) (hhi : ∀ j (h : j < l.length), 128 ≤ l[j].toNat) : vtake l = none := by
  rw [vtake_step l.length l (by omega) (by omega) (fun j h _ => hhi j h)]
  simp [vgo]
end Go.Proofs.YtblpkmmhmdpkjaaGreatDoor

/- Numbers made ones that are not below 0, and back: the plain mathematics (varint). -/

namespace Go.Proofs.YtblpkmmhmdpkjaaGreatDoor

/-- A number made one that is not below 0, and back. -/
def vzig (x : Int) : Int := if x < 0 then -2 * x - 1 else 2 * x
def vzag (u : Int) : Int := if u % 2 = 1 then -(u / 2) - 1 else u / 2
theorem vzig_neg {x : Int} (h : x < 0) : vzig x = -2 * x - 1 := if_pos h
theorem vzig_pos {x : Int} (h : 0 ≤ x) : vzig x = 2 * x := if_neg (by omega)
theorem vzag_odd {u : Int} (h : u % 2 = 1) : vzag u = -(u / 2) - 1 := if_pos h
theorem vzag_even {u : Int} (h : u % 2 = 0) : vzag u = u / 2 := if_neg (by omega)
theorem vzig_bd {x : Int} (h0 : -9223372036854775808 ≤ x) (h1 : x ≤ 9223372036854775807) : 0 ≤ vzig x ∧ vzig x < 18446744073709551616 := by unfold vzig; split <;> omega
theorem vzag_bd {u : Int} (h0 : 0 ≤ u) (h1 : u < 18446744073709551616) : -9223372036854775808 ≤ vzag u ∧ vzag u ≤ 9223372036854775807 := by unfold vzag; split <;> omega
theorem vzag_vzig (x : Int) : vzag (vzig x) = x := by unfold vzag vzig; split <;> split <;> omega
end Go.Proofs.YtblpkmmhmdpkjaaGreatDoor

/- Contracts of varint's functions that only compute with numbers. -/









namespace Go.Proofs.YtblpkmmhmdpkjaaGreatDoor

open Go.RowKit

theorem zig_any (x : Int) (w : World) (h0 : -9223372036854775808 ≤ x) (h1 : x ≤ 9223372036854775807) :
    Calls Tryz.prog 165 #[.int .i64 x] w fun e w' => e = .returned (.int .u64 (vzig x)) ∧ w = w' := by
  by_cases hx : x < 0
  · have hb := u64_not (IntKind.u64.wrap (IntKind.u64.wrap x * 2)) (by rw [IntKind.wrap_u64]; omega) (by rw [IntKind.wrap_u64]; omega)
    have hs : IntKind.u64.signed = false := rfl
    go_enter Tryz.func165, Tryz.ntmps165
    go_wp2
    go_ret
    exact ⟨ret_int (by rw [vzig_neg hx]; simp only [IntKind.wrap_u64]; omega), rfl⟩
  · go_enter Tryz.func165, Tryz.ntmps165
    go_wp2
    go_ret
    exact ⟨ret_int (by rw [vzig_pos (by omega)]; omega), rfl⟩
theorem zag_any (u : Int) (w : World) (h0 : 0 ≤ u) (h1 : u < 18446744073709551616) :
    Calls Tryz.prog 177 #[.int .u64 u] w fun e w' => e = .returned (.int .i64 (vzag u)) ∧ w = w' := by
  have hb := i64_not (u / 2) (by omega) (by omega)
  have ha := u64_and1 u h0 h1
  have hs : IntKind.i64.signed = true := rfl
  rcases (by omega : u % 2 = 0 ∨ u % 2 = 1) with hu | hu
  · have hz : (u % 2 != 0) = false := by simp [hu]
    have H := Lib.hid hu
    clear hu
    go_enter Tryz.func177, Tryz.ntmps177
    go_wp2
    go_ret
    exact ⟨ret_int (by rw [vzag_even H.out]), rfl⟩
  · have hz : (u % 2 != 0) = true := by simp [hu]
    have H := Lib.hid hu
    clear hu
    go_enter Tryz.func177, Tryz.ntmps177
    go_wp2
    go_ret
    exact ⟨ret_int (by rw [vzag_odd H.out]), rfl⟩
theorem vsize_any (u : Int) (w : World) (h0 : 0 ≤ u) (h1 : u < 18446744073709551616) :
    Calls Tryz.prog 205 #[.int .u64 u] w fun e w' => e = .returned (.int .i64 ((vput u.toNat).length : Nat)) ∧ w = w' := by
  have ho := u64_or1 u h0 h1
  have hl : u.toNat ||| 1 < 2 ^ 64 := Nat.or_lt_two_pow (by omega) (by omega)
  have HB := Lib.hid (bitLen_vput u.toNat (by omega))
  have hle := vput_len_10 (x := u.toNat) (by omega)
  generalize (vput u.toNat).length = n at *
  generalize u.toNat ||| 1 = m at *
  have hle2 : Lib.bitLen m ≤ 70 := by have := HB.out; omega
  go_enter Tryz.func205, Tryz.ntmps205
  go_wp2_with (go_at_call 94; refine (Tryz.bits_Len64 _ _ (by omega) (by omega)).mono ?_; rintro e w' ⟨rfl, rfl⟩)
  go_ret
  exact ⟨ret_int (by have := HB.out; omega), rfl⟩
theorem mayEnd_any (i c : Int) (w : World) (h0 : 0 ≤ i) (h1 : i ≤ 1000) (h2 : 0 ≤ c) (h3 : c < 256) :
    Calls Tryz.prog 206 #[.int .i64 i, .int .u8 c] w fun e w' => e = .returned (.bool (vend i.toNat c.toNat)) ∧ w = w' := by
  by_cases h9 : i = 9
  · subst h9
    have hv : vend (9 : Int).toNat c.toNat = (c == 1) := by
      show (if 9 = 9 then c.toNat == 1 else _) = _
      rw [if_pos rfl, Bool.eq_iff_iff]; simp; omega
    have HV := Lib.hid hv
    clear hv
    go_enter Tryz.func206, Tryz.ntmps206
    go_wp2
    go_ret
    exact ⟨ret_bool HV.out.symm, rfl⟩
  · have h9' : (i == 9) = false := by simpa using h9
    have hv : vend i.toNat c.toNat = (c != 0 || i == 0) := by
      show (if i.toNat = 9 then _ else c.toNat != 0 || i.toNat == 0) = _
      rw [if_neg (by omega), Bool.eq_iff_iff]; simp; omega
    by_cases hc : c = 0
    · subst hc
      have HV := Lib.hid hv
      clear hv
      go_enter Tryz.func206, Tryz.ntmps206
      go_wp2
      go_ret
      exact ⟨ret_bool (by rw [HV.out]; rfl), rfl⟩
    · have hc' : (c != 0) = true := by simpa using hc
      have HV := Lib.hid hv
      clear hv
      go_enter Tryz.func206, Tryz.ntmps206
      go_wp2
      go_ret
      exact ⟨ret_bool (by rw [HV.out, hc']; rfl), rfl⟩
end Go.Proofs.YtblpkmmhmdpkjaaGreatDoor

/- The contract of the reference's Put. -/



namespace Go.Proofs.YtblpkmmhmdpkjaaGreatDoor

open Go.RowKit

theorem bv_low {y : Nat} (h : y < 256) : Value.int .u8 (y : Int) = bv (UInt8.ofNat y) := by unfold bv; congr 1; simp; omega

end Go.Proofs.YtblpkmmhmdpkjaaGreatDoor

/- The contract of varint.Put. -/





namespace Go.Proofs.YtblpkmmhmdpkjaaGreatDoor

open Go.RowKit

/-- What the loop holds: j bytes are laid down behind l. -/
def PutRel (l : List UInt8) (X k : Nat) (w : World) (t : TypeId) (x i : Value) (wr : World) : Prop :=
  ∃ j : Nat, i = .int .i64 (j : Int) ∧ j + 1 ≤ k ∧ x = .int .u64 ((X / 128 ^ j : Nat) : Int) ∧ Row wr w.heap.size t ((l ++ (vput X).take j).map bv ++ List.replicate (k - j) (bv 0)) ∧ Below w.heap.size w wr

set_option maxHeartbeats 400000 in
set_option maxRecDepth 100000 in
theorem put_own (A : Option Addr) (n c : Nat) (x : Int) (l : List UInt8) (w : World) (_hA : A = none → n = 0) (hn : l.length = n) (hnb : n ≤ 1000000) (hl : Lies w A (l.map bv)) (h0 : 0 ≤ x) (h1 : x < 18446744073709551616) :
    Calls Tryz.prog 182 #[.slice A n c, .int .u64 x] w (RetOwn w (l ++ vput x.toNat)) := by
  have h10 := vput_len_10 (x := x.toNat) (by omega)
  have hp := vput_len_pos x.toNat
  obtain ⟨k, hk⟩ : ∃ k, k = (vput x.toNat).length := ⟨_, rfl⟩
  have HK := Lib.hid hk
  have hsz := vsize_any x w h0 h1
  rw [← hk] at hsz h10 hp
  have HS := Lib.hid hsz
  clear hk hsz
  have hm : (l.map bv).length = n := by simpa using hn
  go_enter Tryz.func182, Tryz.ntmps182
  go_wp2_with (first | (go_at_call 205; refine HS.out.mono ?_; rintro e w' ⟨rfl, rfl⟩) | (refine wpList_make elemB rfl _ _ rfl _ _ _ _ (n + k) w w.heap.size rfl rfl ?_ ?_ (by omega) (by omega) (Below.refl _ _) (Nat.le_refl _) ?_))
  · omega
  · omega
  intro w1 hr1 hb1
  have hl1 := hl.below hb1
  have hlr : (List.replicate (n + k) (bv 0)).length = n + k := by simp
  go_wp2_with (refine wpList_copyRow elemB rfl (.tmp 16) (.tmp 17) rfl _ _ _ _ _ _ _ _ (l.map bv) w.heap.size w rfl rfl hr1 hm hl1 (bv_one l) (by omega) (by omega) hb1 (Nat.le_refl _) ?_)
  intro w2 hr2 hb2
  have hr2' : Row w2 w.heap.size 5 (l.map bv ++ List.replicate k (bv 0)) := by simpa [hn] using hr2
  clear hr2 hr1 hb1 hl1 hlr HS
  go_wp2
  obtain ⟨X, rfl⟩ := Int.eq_ofNat_of_zero_le h0
  rw [Int.toNat_natCast] at *
  go_loopw [1, 25] (PutRel l X k w 5) (fun _ i _ => k - (intOf i).toNat)
  case atStart => exact ⟨0, rfl, by omega, by simp, by simpa using hr2', hb2⟩
  case round =>
    obtain ⟨j, rfl, hj, rfl, hr, hb⟩ := hrel
    clear hr2' hb2
    have hll : ((l ++ (vput X).take j).map bv).length = n + j := by
      have := HK.out
      simp; omega
    have hc0 : wr.cell? ⟨w.heap.size, n + j, none⟩ = some (bv 0) := by
      rw [hr.cell, List.getElem?_append_right (by omega), hll, List.getElem?_replicate]
      simp; omega
    have hf0 := hr.free (n + j)
    generalize hY : X / 128 ^ j = Y at *
    have HY := Lib.hid hY
    clear hY
    have hy : (Y : Int) < 18446744073709551616 := by
      have := Nat.div_le_self X (128 ^ j)
      rw [HY.out] at this
      omega
    have ho := u8_or128 ((Y : Int) % 256) (by omega) (by omega)
    by_cases hlt : j + 1 < k
    · have hq : ((j : Int) < (k : Int) - 1) := by omega
      go_wp2
      go_roundw
      case rel =>
        refine ⟨j + 1, by go_num, by omega, ?_, ?_, hb.setCell (Nat.le_refl _) _⟩
        · rw [Nat.pow_succ, ← Nat.div_div_eq_div_mul, HY.out]; go_num
        · have h2 := hr.set_ (n + j) (.int .u8 ((Y : Int) % 128 + 128))
          have h3 : Value.int .u8 ((Y : Int) % 128 + 128) = bv (UInt8.ofNat (Y % 128 + 128)) := by
            rw [show (Y : Int) % 128 + 128 = ((Y % 128 + 128 : Nat) : Int) by omega, bv_low (by omega)]
          have h4 := (vput_getElem j X (by have := HK.out; omega)).1
          rw [h3] at h2 ⊢
          have h5 : (List.map bv (l ++ List.take j (vput X)) ++ List.replicate (k - j) (bv 0)).set (n + j) (bv (UInt8.ofNat (Y % 128 + 128))) =
              List.map bv (l ++ List.take (j + 1) (vput X)) ++ List.replicate (k - (j + 1)) (bv 0) := by
            rw [List.set_append_right _ _ (by omega), hll, Nat.sub_self, show k - j = k - (j + 1) + 1 by omega, List.replicate_succ, List.set_cons_zero,
              List.take_succ_eq_append_getElem (by have := HK.out; omega), h4, HY.out]
            simp
          rw [h5] at h2
          exact h2
      case measure => simp [intOf]; omega
    · obtain rfl : k = j + 1 := by omega
      have hq : ¬ ((j : Int) < ((j + 1 : Nat) : Int) - 1) := by omega
      go_wp2
      go_ret
      have h4 := vput_take_last j X HK.out
      have h5 := (vput_last j X HK.out).2
      rw [HY.out] at h4 h5
      have h2 := hr.set_ (n + j) (.int .u8 ((Y : Int) % 256))
      have h6 : (List.map bv (l ++ List.take j (vput X)) ++ List.replicate (j + 1 - j) (bv 0)).set (n + j) (.int .u8 ((Y : Int) % 256)) = List.map bv (l ++ vput X) := by
        have h7 : Value.int .u8 ((Y : Int) % 256) = bv (UInt8.ofNat Y) := by
          rw [show (Y : Int) % 256 = ((Y : Nat) : Int) by omega, bv_low (by omega)]
        rw [List.set_append_right _ _ (by omega), hll, Nat.sub_self, show j + 1 - j = 0 + 1 by omega, List.replicate_succ, List.set_cons_zero, h7, List.replicate_zero]
        conv => rhs; rw [← h4]
        simp
      rw [h6] at h2
      have h9 : (l ++ vput X).length = n + (j + 1) := by have := HK.out; rw [List.length_append]; omega
      exact ⟨.slice (some ⟨w.heap.size, 0, none⟩) (n + (j + 1)) (n + (j + 1)), rfl, by rw [h9]; exact own_of_row h2 (by rw [List.length_map]; exact h9) (Nat.le_refl _) (by omega), hb.setCell (Nat.le_refl _) _⟩
end Go.Proofs.YtblpkmmhmdpkjaaGreatDoor

/- The contract of varint.Take. -/







namespace Go.Proofs.YtblpkmmhmdpkjaaGreatDoor

open Go.RowKit

/-- What a call answers that takes a number off bytes. -/
def RetT (k : IntKind) (w : World) (o : Option (Int × List UInt8)) (e : Ending) (w' : World) : Prop :=
  match o with
  | none => e = .returned (.tuple #[.int k 0, .slice none 0 0, .int .i64 2]) ∧ Below w.heap.size w w'
  | some p => ∃ A c, e = .returned (.tuple #[.int k p.1, .slice A p.2.length c, .int .i64 0]) ∧ (A = none → p.2.length = 0) ∧ p.2.length ≤ c ∧ c ≤ maxLen ∧ OwnB w p.2 (.slice A p.2.length c) w' ∧ Below w.heap.size w w'

/-- What the loop holds: k bytes with their highest bit are read. -/
def TakeRel (l : List UInt8) (x i : Value) : Prop :=
  ∃ (k : Nat) (y : Int), i = .int .i64 (k : Int) ∧ k ≤ 10 ∧ k ≤ l.length ∧ x = .int .u64 y ∧ 0 ≤ y ∧ y < 18446744073709551616 ∧ (k ≤ 9 → y = (vsum (l.take k) : Nat)) ∧ ∀ j (h : j < l.length), j < k → 128 ≤ l[j].toNat

theorem or_shift_bd (y : Int) (d k : Nat) (h0 : 0 ≤ y) (h1 : y < 18446744073709551616) :
    0 ≤ bits .or .u64 y (IntKind.u64.wrap ((d : Int) * 2 ^ (7 * k))) ∧ bits .or .u64 y (IntKind.u64.wrap ((d : Int) * 2 ^ (7 * k))) < 18446744073709551616 := by
  rw [u64_or y _ h0 h1 (by rw [IntKind.wrap_u64]; omega) (by rw [IntKind.wrap_u64]; omega)]
  have : y.toNat ||| (IntKind.u64.wrap ((d : Int) * 2 ^ (7 * k))).toNat < 2 ^ 64 := Nat.or_lt_two_pow (by omega) (by rw [IntKind.wrap_u64]; omega)
  omega
theorem or_shift_eq (a d k : Nat) (ha : a < 128 ^ k) (hk : k ≤ 9) (hd : 128 ^ k * d < 18446744073709551616) :
    bits .or .u64 (a : Int) (IntKind.u64.wrap ((d : Int) * 2 ^ (7 * k))) = ((a + 128 ^ k * d : Nat) : Int) := by
  have h1 : (128 : Nat) ^ k = 2 ^ (7 * k) := by rw [Nat.pow_mul]
  have h2 : (128 : Nat) ^ k ≤ 128 ^ 9 := Nat.pow_le_pow_right (by omega) hk
  have h3 : (128 : Nat) ^ 9 = 9223372036854775808 := by decide
  rw [h1] at ha hd ⊢
  have h4 : ((d : Int) * 2 ^ (7 * k)) = ((d * 2 ^ (7 * k) : Nat) : Int) := by push_cast; rfl
  rw [h4, IntKind.wrap_u64, Int.emod_eq_of_lt (by omega) (by rw [Nat.mul_comm]; omega), u64_join (7 * k) a d ha (by rw [Nat.mul_comm]; exact hd) (by omega), Nat.mul_comm d]

theorem mayEnd_is (i c : Nat) (v : Bool) (w : World) (h1 : i ≤ 1000) (h2 : c < 256) (hv : vend i c = v) :
    Calls Tryz.prog 206 #[.int .i64 (i : Int), .int .u8 (c : Int)] w fun e w' => e = .returned (.bool v) ∧ w = w' := by
  have h := mayEnd_any (i : Int) (c : Int) w (by omega) (by omega) (by omega) (by omega)
  rw [Int.toNat_natCast, Int.toNat_natCast, hv] at h
  exact h

set_option maxHeartbeats 400000 in
set_option maxRecDepth 100000 in
theorem take_any (A : Option Addr) (n c : Nat) (l : List UInt8) (w : World) (hA : A = none → n = 0) (hn : l.length = n) (hnc : n ≤ c) (hnb : n ≤ 1000000) (hl : Lies w A (l.map bv)) :
    Calls Tryz.prog 183 #[.slice A n c] w (RetT .u64 w ((vtake l).map fun p => ((p.1 : Int), p.2))) := by
  go_enter Tryz.func183, Tryz.ntmps183
  go_wp2
  go_loop [5, 11] (TakeRel l) (fun _ i => 10 - (intOf i).toNat)
  case atStart => exact ⟨0, 0, rfl, by omega, by omega, rfl, by omega, by omega, by simp [vsum], by omega⟩
  case round =>
    obtain ⟨k, y, rfl, hk, hkl, rfl, hy0, hy1, hy, hhi⟩ := hrel
    have HY := Lib.hid hy
    have HH := Lib.hid hhi
    clear hy hhi
    by_cases hlt : k < min n 10
    · have hm : (l.map bv).length = n := by simpa using hn
      obtain ⟨ad, rfl, _, hc⟩ := hl.cell (k := k) (by omega)
      obtain ⟨b, hb⟩ : ∃ b : Nat, b = (l[k]'(by omega)).toNat := ⟨_, rfl⟩
      have hcb : w.cell? (ad.add k) = some (.int .u8 (b : Int)) := by rw [hc, List.getElem_map, hb]; rfl
      have hb256 : b < 256 := by rw [hb]; exact UInt8.toNat_lt _
      have HB := Lib.hid hb
      clear hb hc
      have ha1 := u8_and127 (b : Int) (by omega) (by omega)
      have hlt' : (k : Int) < min (n : Int) 10 := by omega
      have hbd := or_shift_bd y (b % 128) k hy0 hy1
      have hZ : bits .or .u64 y (IntKind.u64.wrap ((b : Int) % 128 * 2 ^ (7 * k))) = bits .or .u64 y (IntKind.u64.wrap (((b % 128 : Nat) : Int) * 2 ^ (7 * k))) := by push_cast; rfl
      obtain ⟨Z, hzz⟩ : ∃ Z, Z = bits .or .u64 y (IntKind.u64.wrap (((b % 128 : Nat) : Int) * 2 ^ (7 * k))) := ⟨_, rfl⟩
      rw [← hzz] at hZ hbd
      have HZ := Lib.hid hzz
      clear hzz
      obtain ⟨hz0, hz1⟩ := hbd
      have hb9 : k ≤ 9 := by omega
      by_cases h128 : b < 128
      · have ha2 : bits .and .u8 (b : Int) 128 = 0 := by rw [u8_and128 (b : Int) (by omega) (by omega)]; omega
        have hend : vtake l = if vend k b = true then some (vsum (l.take k) + 128 ^ k * b, l.drop (k + 1)) else none := by
          have := vtake_end hb9 (by omega) HH.out (by rw [← HB.out]; exact h128)
          rw [← HB.out] at this
          exact this
        cases hv : vend k b with
        | false =>
          have HE : Hid (vtake l = none) := by show vtake l = none; rw [hend, hv]; simp
          have HV := Lib.hid hv
          clear hend hv
          go_wp2_with (go_at_call 206; refine (mayEnd_is _ _ false _ (by omega) (by omega) HV.out).mono ?_; rintro e w' ⟨rfl, rfl⟩)
          go_ret3
          rw [HE.out]
          exact ⟨rfl, Below.refl _ _⟩
        | true =>
          have HE : Hid (vtake l = some (vsum (l.take k) + 128 ^ k * b, l.drop (k + 1))) := by show vtake l = _; rw [hend, hv]; simp
          have HV := Lib.hid hv
          clear hend hv
          have hdl : ((l.drop (k + 1)).map bv).length = n - (k + 1) := by rw [List.length_map, List.length_drop, hn]
          have hlk : Lies w (some ⟨ad.block, ad.off + (k + 1), none⟩) ((l.drop (k + 1)).map bv) := by rw [List.map_drop]; exact hl.drop_some k
          have hfin : ∀ (v : Value) (w1 : World), w1.ownsRow w.heap.size 5 1 v (n - (k + 1)) ((l.drop (k + 1)).map bv) → Below w.heap.size w w1 →
              RetT .u64 w ((vtake l).map fun p => ((p.1 : Int), p.2)) (.returned (.tuple #[.int .u64 Z, v, .int .i64 0])) w1 := by
            intro v w1 hown hb
            obtain ⟨B, c', hB, h2, h3, h4, _, h6⟩ := ret_own (w0 := w) hown hb
            injection hB with hB
            subst hB
            have hZv : Z = ((vsum (l.take k) + 128 ^ k * b : Nat) : Int) := by
              have h7 := HY.out hb9
              have h8 : b % 128 = b := by omega
              have hvs := vsum_lt (l.take k)
              rw [List.length_take, Nat.min_eq_left (by omega)] at hvs
              have hto := (vtake_some HE.out).2
              rw [HZ.out, h7, h8, or_shift_eq _ _ _ hvs hb9 (by omega)]
            rw [HE.out]
            exact ⟨B, c', by rw [hZv], h2, h3, h4, ⟨_, hown⟩, h6⟩
          have HF := Lib.hid hfin
          clear hfin
          by_cases hck : c = k + 1
          · obtain rfl : n = k + 1 := by omega
            have hd0 : (l.drop (k + 1)).map bv = [] := List.eq_nil_of_length_eq_zero (by omega)
            have HD := Lib.hid hd0
            clear hd0 hdl
            go_wp2_with (first | (go_at_call 206; refine (mayEnd_is _ _ true _ (by omega) (by omega) HV.out).mono ?_; rintro e w' ⟨rfl, rfl⟩) | (at_builtin; refine wpList_join elemB rfl _ _ rfl w.heap.size _ _ _ _ _ _ [] w rfl rfl (by simp) (by simp) Lies.nil (by simp) (World.ownsRow_nil _ _ _ _) (Below.refl _ _) (Nat.le_refl _) (by omega) (by omega) ?_))
            intro v1 w1 hown1 hb1 _ _
            go_wp2
            go_ret3
            exact HF.out v1 w1 (by rw [HD.out]; simpa using hown1) hb1
          · go_wp2_with (first | (go_at_call 206; refine (mayEnd_is _ _ true _ (by omega) (by omega) HV.out).mono ?_; rintro e w' ⟨rfl, rfl⟩) | (at_builtin; refine wpList_join elemB rfl _ _ rfl w.heap.size _ _ _ _ _ _ ((l.drop (k + 1)).map bv) w rfl rfl (by simp) hdl hlk (bv_one _) (World.ownsRow_nil _ _ _ _) (Below.refl _ _) (Nat.le_refl _) (by omega) (by omega) ?_))
            intro v1 w1 hown1 hb1 _ _
            go_wp2
            go_ret3
            exact HF.out v1 w1 (by simpa using hown1) hb1
      · have ha2 : bits .and .u8 (b : Int) 128 = 128 := by rw [u8_and128 (b : Int) (by omega) (by omega)]; omega
        go_wp2
        go_round
        case rel =>
          refine ⟨k + 1, Z, by go_num, by omega, by omega, rfl, hz0, hz1, ?_, ?_⟩
          · intro h9
            have h7 := HY.out hb9
            have hvs := vsum_lt (l.take k)
            rw [List.length_take, Nat.min_eq_left (by omega)] at hvs
            have h2 : (128 : Nat) ^ k ≤ 128 ^ 8 := Nat.pow_le_pow_right (by omega) (by omega)
            have h3 : (128 : Nat) ^ 8 = 72057594037927936 := by decide
            have h4 : 128 ^ k * (b % 128) ≤ 72057594037927936 * 127 := Nat.mul_le_mul (by omega) (by omega)
            rw [HZ.out, h7, or_shift_eq _ _ _ hvs hb9 (by omega), List.take_succ_eq_append_getElem (by omega), vsum_append, List.length_take, Nat.min_eq_left (by omega)]
            simp only [vsum, ← HB.out, Nat.mul_zero, Nat.add_zero]
          · intro j hj hjk
            by_cases hjk' : j = k
            · subst hjk'; rw [← HB.out]; omega
            · exact HH.out j hj (by omega)
        case measure => simp [intOf]; omega
    · have hge : ¬ (k : Int) < min (n : Int) 10 := by omega
      have hnone : vtake l = none := by
        by_cases h10 : n < 10
        · exact vtake_all (by omega) fun j hj => HH.out j hj (by omega)
        · exact vtake_long (by omega) fun j hj hj10 => HH.out j hj (by omega)
      have HE := Lib.hid hnone
      clear hnone
      go_wp2
      go_ret3
      rw [HE.out]
      exact ⟨rfl, Below.refl _ _⟩
end Go.Proofs.YtblpkmmhmdpkjaaGreatDoor

/- The contract of the reference's Take. -/











namespace Go.Proofs.YtblpkmmhmdpkjaaGreatDoor

open Go.RowKit

end Go.Proofs.YtblpkmmhmdpkjaaGreatDoor

/- Contracts of the numbers with a sign, or without, and of what stands at the head of all statements. -/





namespace Go.Proofs.YtblpkmmhmdpkjaaGreatDoor

open Go.RowKit

/-- The number that is laid down. -/
def vint (x : Int) (s : Bool) : Nat := if s = true then (vzig x).toNat else (x % 18446744073709551616).toNat
/-- What is taken as a number with a sign, or without. -/
def vtint (l : List UInt8) (s : Bool) : Option (Int × List UInt8) :=
  match vtake l, s with
  | none, _ => none
  | some p, true => some (vzag (p.1 : Int), p.2)
  | some p, false => if 9223372036854775808 ≤ (p.1 : Int) then none else some ((p.1 : Int), p.2)
theorem vtint_none {l : List UInt8} (s : Bool) (h : vtake l = none) : vtint l s = none := by unfold vtint; rw [h]
theorem vtint_true {l r : List UInt8} {u : Nat} (h : vtake l = some (u, r)) : vtint l true = some (vzag (u : Int), r) := by unfold vtint; rw [h]
theorem vtint_small {l r : List UInt8} {u : Nat} (h : vtake l = some (u, r)) (hu : (u : Int) < 9223372036854775808) : vtint l false = some ((u : Int), r) := by
  unfold vtint; rw [h]; exact if_neg (by show ¬ (9223372036854775808 : Int) ≤ (u : Int); omega)
theorem vtint_big {l r : List UInt8} {u : Nat} (h : vtake l = some (u, r)) (hu : 9223372036854775808 ≤ (u : Int)) : vtint l false = none := by
  unfold vtint; rw [h]; exact if_pos hu

set_option maxHeartbeats 400000 in
theorem putInt_own (A : Option Addr) (n c : Nat) (x : Int) (s : Bool) (l : List UInt8) (w : World) (hA : A = none → n = 0) (hn : l.length = n) (hnb : n ≤ 1000000) (hl : Lies w A (l.map bv)) (h0 : -9223372036854775808 ≤ x) (h1 : x ≤ 9223372036854775807) :
    Calls Tryz.prog 153 #[.slice A n c, .int .i64 x, .bool s] w (RetOwn w (l ++ vput (vint x s))) := by
  cases s with
  | true =>
    obtain ⟨hz0, hz1⟩ := vzig_bd h0 h1
    go_enter Tryz.func153, Tryz.ntmps153
    go_wp2_with (first | (go_at_call 165; refine (zig_any _ _ h0 h1).mono ?_; rintro e w' ⟨rfl, rfl⟩) | (go_at_call 182; refine (put_own _ _ _ _ l _ hA hn hnb hl hz0 hz1).mono ?_; intro e w' h; obtain ⟨v, rfl, hv, hb⟩ := h; have HV := Lib.hid hv; clear hv))
    go_ret
    exact ⟨_, rfl, HV.out, hb⟩
  | false =>
    have hw : IntKind.u64.wrap x = x % 18446744073709551616 := IntKind.wrap_u64 x
    have hu0 : 0 ≤ x % 18446744073709551616 := by omega
    have hu1 : x % 18446744073709551616 < 18446744073709551616 := by omega
    by_cases hx : 0 ≤ x
    · have he : x % 18446744073709551616 = x := by omega
      have HE := Lib.hid he
      clear he hu0 hu1 hw
      go_enter Tryz.func153, Tryz.ntmps153
      go_wp2_with (go_at_call 182; refine (put_own _ _ _ _ l _ hA hn hnb hl hx (by omega)).mono ?_; intro e w' h; obtain ⟨v, rfl, hv, hb⟩ := h; have HV := Lib.hid hv; clear hv)
      go_ret
      unfold vint
      rw [if_neg (by decide), HE.out]
      exact ⟨_, rfl, HV.out, hb⟩
    · have hx' : x < 0 := by omega
      go_enter Tryz.func153, Tryz.ntmps153
      go_wp2_with (go_at_call 182; refine (put_own _ _ _ _ l _ hA hn hnb hl hu0 hu1).mono ?_; intro e w' h; obtain ⟨v, rfl, hv, hb⟩ := h; have HV := Lib.hid hv; clear hv)
      go_ret
      exact ⟨_, rfl, HV.out, hb⟩

theorem putInt_any (A : Option Addr) (n c : Nat) (x : Int) (s : Bool) (l : List UInt8) (w : World) (hA : A = none → n = 0) (hn : l.length = n) (hnb : n ≤ 1000000) (hl : Lies w A (l.map bv)) (h0 : -9223372036854775808 ≤ x) (h1 : x ≤ 9223372036854775807) :
    Calls Tryz.prog 153 #[.slice A n c, .int .i64 x, .bool s] w (RetB w (l ++ vput (vint x s))) := (putInt_own A n c x s l w hA hn hnb hl h0 h1).mono fun _ _ h => h.retB
set_option maxHeartbeats 400000 in
set_option maxRecDepth 100000 in
theorem takeInt_any (A : Option Addr) (n c : Nat) (s : Bool) (l : List UInt8) (w : World) (hA : A = none → n = 0) (hn : l.length = n) (hnc : n ≤ c) (hnb : n ≤ 1000000) (hl : Lies w A (l.map bv)) :
    Calls Tryz.prog 155 #[.slice A n c, .bool s] w (RetT .i64 w (vtint l s)) := by
  cases ht : vtake l with
  | none =>
    have hc := take_any A n c l w hA hn hnc hnb hl
    rw [ht] at hc
    have HC := Lib.hid hc
    have HT := Lib.hid ht
    clear hc ht
    go_enter Tryz.func155, Tryz.ntmps155
    go_wp2_with (go_at_call 183; refine HC.out.mono ?_; rintro e w' ⟨rfl, hb⟩)
    go_ret3
    rw [vtint_none _ HT.out]
    exact ⟨rfl, hb⟩
  | some p =>
    obtain ⟨u, r⟩ := p
    have hu := (vtake_some ht).2
    have hu0 : (0 : Int) ≤ (u : Int) := by omega
    have hu1 : (u : Int) < 18446744073709551616 := by omega
    have hc := take_any A n c l w hA hn hnc hnb hl
    rw [ht] at hc
    have ht' : Option.map (fun p : Nat × List UInt8 => ((p.1 : Int), p.2)) (some (u, r)) = some ((u : Int), r) := rfl
    rw [ht'] at hc
    obtain ⟨U, hU⟩ : ∃ U : Int, U = (u : Int) := ⟨_, rfl⟩
    rw [← hU] at hc hu0 hu1
    have HU := Lib.hid hU
    have HC := Lib.hid hc
    have HT := Lib.hid ht
    clear hc ht hu ht' hU
    cases s with
    | true =>
      go_enter Tryz.func155, Tryz.ntmps155
      go_wp2_with (first | (go_at_call 183; refine HC.out.mono ?_; rintro e w' ⟨A1, c1, rfl, h2⟩; have H2 := Lib.hid h2; clear h2) | (go_at_call 177; refine (zag_any _ _ hu0 hu1).mono ?_; rintro e w2 ⟨rfl, rfl⟩))
      go_ret3
      rw [vtint_true HT.out, ← HU.out]
      exact ⟨A1, c1, rfl, H2.out⟩
    | false =>
      by_cases hbig : U < 9223372036854775808
      · have hb2 : ¬ (9223372036854775807 : Int) < U := by omega
        have hb3 : ¬ (9223372036854775808 : Int) ≤ U := by omega
        go_enter Tryz.func155, Tryz.ntmps155
        go_wp2_with (go_at_call 183; refine HC.out.mono ?_; rintro e w' ⟨A1, c1, rfl, h2⟩; have H2 := Lib.hid h2; clear h2)
        go_ret3
        rw [vtint_small HT.out (by have := HU.out; omega), ← HU.out]
        exact ⟨A1, c1, rfl, H2.out⟩
      · have hb2 : (9223372036854775807 : Int) < U := by omega
        have hb3 : (9223372036854775808 : Int) ≤ U := by omega
        go_enter Tryz.func155, Tryz.ntmps155
        go_wp2_with (go_at_call 183; refine HC.out.mono ?_; rintro e w' ⟨A1, c1, rfl, h2⟩; have H2 := Lib.hid h2; clear h2)
        go_ret3
        rw [vtint_big HT.out (by have := HU.out; omega)]
        exact ⟨rfl, H2.out.2.2.2.2⟩

end Go.Proofs.YtblpkmmhmdpkjaaGreatDoor

/- The contracts of varint and of its reference, said of opaque values that hold bytes. -/



namespace Go.Proofs.YtblpkmmhmdpkjaaGreatDoor

open Go.RowKit

def TakenN (o : Option (Int × List UInt8)) : Int := match o with | none => 0 | some p => p.1
def TakenR (o : Option (Int × List UInt8)) : List UInt8 := match o with | none => [] | some p => p.2
def TakenE (o : Option (Int × List UInt8)) : Int := match o with | none => 2 | some _ => 0
theorem RetT.parts {k : IntKind} {w w' : World} {o : Option (Int × List UInt8)} {e : Ending} (h : RetT k w o e w') :
    ∃ r, e = .returned (.tuple #[.int k (TakenN o), r, .int .i64 (TakenE o)]) ∧ IsB (TakenR o) r w' ∧ Below w.heap.size w w' := by
  cases o with
  | none => exact ⟨_, h.1, isB_nil _, h.2⟩
  | some p =>
    obtain ⟨A, c, h1, h2, h3, h4, h5, h6⟩ := h
    exact ⟨_, h1, h5.isB, h6⟩
theorem RetT.owned {k : IntKind} {w w' : World} {o : Option (Int × List UInt8)} {e : Ending} (h : RetT k w o e w') :
    ∃ r, e = .returned (.tuple #[.int k (TakenN o), r, .int .i64 (TakenE o)]) ∧ OwnB w (TakenR o) r w' ∧ Below w.heap.size w w' := by
  cases o with
  | none => exact ⟨_, h.1, OwnB.nil _ _, h.2⟩
  | some p =>
    obtain ⟨A, c, h1, h2, h3, h4, h5, h6⟩ := h
    exact ⟨_, h1, h5, h6⟩
theorem takeInt_isB {l : List UInt8} {v : Value} {w : World} (s : Bool) (h : IsB l v w) (hl : l.length ≤ 1000000) : Calls Tryz.prog 155 #[v, .bool s] w (RetT .i64 w (vtint l s)) := by
  obtain ⟨A, c, rfl, h2, h3, h4, h5⟩ := h
  exact takeInt_any A _ c s l w h2 rfl h3 hl h5
theorem putInt_isB {l : List UInt8} {v : Value} {w : World} (x : Int) (s : Bool) (h : IsB l v w) (hl : l.length ≤ 1000000) (h0 : -9223372036854775808 ≤ x) (h1 : x ≤ 9223372036854775807) :
    Calls Tryz.prog 153 #[v, .int .i64 x, .bool s] w fun e w' => ∃ v, e = .returned v ∧ IsB (l ++ vput (vint x s)) v w' ∧ Below w.heap.size w w' := by
  obtain ⟨A, c, rfl, h2, h3, h4, h5⟩ := h
  exact (putInt_any A _ c x s l w h2 rfl hl h5 h0 h1).mono fun _ _ h => h.isB
theorem putInt_isO {l : List UInt8} {v : Value} {w : World} (x : Int) (s : Bool) (h : IsB l v w) (hl : l.length ≤ 1000000) (h0 : -9223372036854775808 ≤ x) (h1 : x ≤ 9223372036854775807) :
    Calls Tryz.prog 153 #[v, .int .i64 x, .bool s] w (RetOwn w (l ++ vput (vint x s))) := by
  obtain ⟨A, c, rfl, h2, h3, h4, h5⟩ := h
  exact putInt_own A _ c x s l w h2 rfl hl h5 h0 h1
end Go.Proofs.YtblpkmmhmdpkjaaGreatDoor

/- Slices of values of one cell, of whatever kind (numbers, truths, texts): f tells a value's cell. Over any program but for the last lines. -/







namespace Go.Proofs.YtblpkmmhmdpkjaaGreatDoor

open Go.RowKit Go.ChangeShapes Go.WideShapes Go.ChangeAt

/-- The slice v holds l. (IsB is this at bv, IsU at uv.) -/
def IsV {α : Type} (f : α → Value) (l : List α) (v : Value) (w : World) : Prop := ∃ A c, v = .slice A l.length c ∧ (A = none → l.length = 0) ∧ l.length ≤ c ∧ c ≤ maxLen ∧ Lies w A (l.map f)
section

variable {α : Type} {f : α → Value} {l : List α} {v : Value} {w w' : World}
theorem IsV.below (h : IsV f l v w) (hb : Below w.heap.size w w') : IsV f l v w' := by
  obtain ⟨A, c, h1, h2, h3, h4, h5⟩ := h
  exact ⟨A, c, h1, h2, h3, h4, h5.below hb⟩
theorem isV_nil (f : α → Value) (w : World) : IsV f [] (.slice none 0 0) w := ⟨none, 0, rfl, by simp, by simp, by unfold maxLen; omega, Lies.nil⟩
theorem isV_row {g : Nat} {t : TypeId} {m : Nat} (h : Row w g t (l.map f)) (hl : l.length = m) (hm : m ≤ 1000000) : IsV f l (.slice (some ⟨g, 0, none⟩) m m) w := by
  subst hl
  exact ⟨_, _, rfl, by simp, Nat.le_refl _, by unfold maxLen; omega, by simpa using h.lies 0⟩
theorem isV_new (f : α → Value) (w : World) (t : TypeId) (l : List α) (m : Nat) (hl : l.length = m) (hm : m ≤ 1000000) : IsV f l (.slice (some ⟨w.heap.size, 0, none⟩) m m) (w.alloc (.cells (l.map f).toArray t)) := by
  have h : Row (w.alloc (.cells (l.map f).toArray t)) w.heap.size t (l.map f) := heap_alloc_new w _
  exact isV_row h hl hm
theorem isV_own {base : Nat} {e : TypeId} {n : Nat} (h : w.ownsRow base e 1 v n (l.map f)) : IsV f l v w := by
  obtain ⟨B, c, rfl, hnc, hcm, _, hl, hlen⟩ := own_shape h
  rw [List.length_map] at hlen
  subst hlen
  refine ⟨B, c, rfl, ?_, hnc, hcm, hl⟩
  intro hB
  subst hB
  rcases hl with hl | ⟨ad, h, _⟩
  · simpa using hl
  · cases h
theorem vs_one {f : α → Value} (h : ∀ x, (f x).oneCell' = true) (l : List α) : ∀ u ∈ l.map f, u.oneCell' = true := by
  intro u hu
  obtain ⟨b, _, rfl⟩ := List.mem_map.1 hu
  exact h b
theorem IsV.cell (h : IsV f l v w) {k : Nat} (hk : k < l.length) : ∃ ad c, v = .slice (some ad) l.length c ∧ ad.block < w.heap.size ∧ w.cell? (ad.add k) = some (f l[k]) := by
  obtain ⟨A, c, h1, _, _, _, h5⟩ := h
  obtain ⟨ad, rfl, h2, h3⟩ := h5.cell (k := k) (by rw [List.length_map]; exact hk)
  exact ⟨ad, c, h1, h2, by rw [h3, List.getElem_map]⟩
theorem IsV.at {A : Option Addr} {n c : Nat} (h : IsV f l (.slice A n c) w) {k : Nat} (hk : k < l.length) : ∃ ad, A = some ad ∧ ad.block < w.heap.size ∧ w.cell? (ad.add k) = some (f l[k]) := by
  obtain ⟨ad, c', h1, h2, h3⟩ := h.cell hk
  injection h1 with h1 _ _
  exact ⟨ad, h1, h2, h3⟩
theorem IsV.len {A : Option Addr} {n c : Nat} (h : IsV f l (.slice A n c) w) : n = l.length := by
  obtain ⟨A', c', h1, _⟩ := h
  injection h1
/-- The first k of it, by x[:k]. -/
theorem IsV.take {A : Option Addr} {n c : Nat} (h : IsV f l (.slice A n c) w) {k : Nat} (hk : k ≤ n) : IsV f (l.take k) (.slice A k c) w := by
  obtain ⟨A', c', h1, h2, h3, h4, h5⟩ := h
  injection h1 with e1 e2 e3
  subst e1 e2 e3
  have hl : (l.take k).length = k := by rw [List.length_take]; omega
  exact ⟨A, c, by rw [hl], fun h => by have := h2 h; omega, by rw [hl]; omega, h4, by rw [List.map_take]; exact h5.take k⟩
end
/-- What is known of a slice that is written out. -/
theorem IsV.parts {α : Type} {f : α → Value} {l : List α} {w : World} {A : Option Addr} {n c : Nat} (h : IsV f l (.slice A n c) w) : l.length = n ∧ (A = none → n = 0) ∧ n ≤ c ∧ c ≤ maxLen ∧ Lies w A (l.map f) := by
  obtain ⟨A', c', h1, h2, h3, h4, h5⟩ := h
  injection h1 with e1 e2 e3
  subst e1 e2 e3
  exact ⟨rfl, h2, h3, h4, h5⟩
theorem IsV.shape {α : Type} {f : α → Value} {l : List α} {v : Value} {w : World} (h : IsV f l v w) : ∃ A n c, v = .slice A n c := by
  obtain ⟨A', c', h1, _⟩ := h
  exact ⟨_, _, _, h1⟩
theorem isB_iff {l : List UInt8} {v : Value} {w : World} : IsB l v w ↔ IsV bv l v w := Iff.rfl

/-- x[k:] of a slice of values of one cell, as one equation. -/
theorem fromV_named {P : Program} {α : Type} {f : α → Value} {w : World} {t e : TypeId} {bytes : Nat} {z : Value} (E : Elem P t e bytes z) {A : Option Addr} {n c k : Nat} {l : List α} (hk : k ≤ n) (hI : IsV f l (.slice A n c) w) :
    ∃ v, (∀ W, (Instr.sliceAt t (.slice A n c) (some (.int .i64 (k : Int))) none none).run P W = .ok v W) ∧ IsV f (l.drop k) v w := by
  obtain ⟨hxs, hA, hnc, hcm, hl⟩ := hI.parts
  have ht := E.under
  have he : P.elem t = e := by simp [Program.elem, ht]
  refine ⟨.slice (if c = k then A else A.map (·.add k)) (n - k) (c - k), fun W => ?_, if c = k then A else A.map (·.add k), c - k, ?_, ?_, ?_, by omega, ?_⟩
  · rw [run_sliceAt_slice W t _ _ _ _ (by rw [he]; exact ht), run_slice_l W t A n c (by rw [he]; exact ht) .i64 (k : Int) (by omega) (by omega), he, E.size_]
    simp [sliced]
  · rw [List.length_drop, hxs]
  · intro hB
    have : A = none := by
      split at hB
      · exact hB
      · cases A with
        | none => rfl
        | some ad => simp at hB
    have := hA this
    rw [List.length_drop, hxs]
    omega
  · rw [List.length_drop, hxs]; omega
  · rw [List.map_drop]; exact hl.drop (by rw [List.length_map]; omega)

/-- Whole numbers with a sign. -/
def iv (x : Int) : Value := .int .i64 x
def inInt (x : Int) : Prop := -9223372036854775808 ≤ x ∧ x ≤ 9223372036854775807
theorem Tryz.infoI : (Tryz.prog.info? 3).map (fun i => (i.zero, i.size, i.bytes)) = some (some (.int .i64 0), 1, 8) := by kernel_rfl
theorem elemI : Elem Tryz.prog 47 3 8 (.int .i64 0) := by
  obtain ⟨i0, hi, hz0, hz1, hz2⟩ := info_parts Tryz.infoI
  exact ⟨Tryz.underlying47, rfl, i0, hi, hz0, hz1, hz2⟩
end Go.Proofs.YtblpkmmhmdpkjaaGreatDoor

/- A number a few times (layer 7), as plain mathematics. -/







namespace Go.Proofs.YtblpkmmhmdpkjaaGreatDoor

/-- How many bytes a number needs. -/
def ebytes (u : Nat) : Nat := max 1 ((wbits u + 7) / 8)
theorem ebytes_pos (u : Nat) : 1 ≤ ebytes u := Nat.le_max_left _ _
theorem ebytes_8 {u : Nat} (h : u < 2 ^ 64) : ebytes u ≤ 8 := by have := wbits_64 h; unfold ebytes; omega
theorem ebytes_room {u : Nat} (h : u < 2 ^ 64) : u < 256 ^ ebytes u := by
  rw [p256]
  exact Nat.lt_of_lt_of_le (wbits_lt h) (Nat.pow_le_pow_right (by omega) (by unfold ebytes; omega))
/-- A number as it stands; none: it may not be. -/
def eplain (x : Int) (s : Bool) : Option Nat := if s then some (vzig x).toNat else if 0 ≤ x then some x.toNat else none
def emade (u : Nat) (s : Bool) : Option Int := if s then some (vzag (u : Int)) else if u < 9223372036854775808 then some (u : Int) else none
theorem eplain_lt {x : Int} {s : Bool} {u : Nat} (h0 : -9223372036854775808 ≤ x) (h1 : x ≤ 9223372036854775807) (h : eplain x s = some u) : u < 2 ^ 64 := by
  have := vzig_bd h0 h1
  unfold eplain at h
  cases s <;> simp at h
  · omega
  · omega
theorem emade_eplain {x : Int} {s : Bool} {u : Nat} (h0 : -9223372036854775808 ≤ x) (h1 : x ≤ 9223372036854775807) (h : eplain x s = some u) : emade u s = some x := by
  have hb := vzig_bd h0 h1
  unfold eplain at h
  unfold emade
  cases s with
  | true =>
    simp at h
    rw [if_pos rfl, ← h, show (((vzig x).toNat : Nat) : Int) = vzig x by omega, vzag_vzig]
  | false =>
    simp at h
    rw [if_neg (by simp), if_pos (by omega)]
    congr 1
    omega
/-- A repeat of a number as it stands. -/
def elay (u t : Nat) : List UInt8 := UInt8.ofNat (8 * (ebytes u - 1) + (t - 3)) :: be (ebytes u) u
theorem elay_len (u t : Nat) : (elay u t).length = ebytes u + 1 := by simp [elay, be_len]
/-- What Put answers. -/
def eput (x t : Int) (s : Bool) : List UInt8 × Int :=
  if t < 3 ∨ 10 < t then ([], 1) else match eplain x s with | none => ([], 1) | some u => (elay u t.toNat, 0)
/-- What Take answers: the number, the times, the bytes behind, an error. -/
def etake (l : List UInt8) (s : Bool) : Int × Int × List UInt8 × Int :=
  match l with
  | [] => (0, 0, [], 2)
  | b :: r =>
    if 64 ≤ b.toNat then (0, 0, [], 2)
    else if r.length < b.toNat / 8 + 1 then (0, 0, [], 2)
    else if ebytes (bval (r.take (b.toNat / 8 + 1))) ≠ b.toNat / 8 + 1 then (0, 0, [], 2)
    else match emade (bval (r.take (b.toNat / 8 + 1))) s with
      | none => (0, 0, [], 2)
      | some x => (x, ((b.toNat % 8 + 3 : Nat) : Int), r.drop (b.toNat / 8 + 1), 0)
/-- P7.2. -/
theorem etake_back {u t : Nat} {x : Int} {s : Bool} (hu : u < 2 ^ 64) (h3 : 3 ≤ t) (h10 : t ≤ 10) (hx : emade u s = some x) (b : List UInt8) : etake (elay u t ++ b) s = (x, (t : Int), b, 0) := by
  have h1 := ebytes_pos u
  have h8 := ebytes_8 hu
  have hr := ebytes_room hu
  have hc : (UInt8.ofNat (8 * (ebytes u - 1) + (t - 3))).toNat = 8 * (ebytes u - 1) + (t - 3) := by rw [UInt8.toNat_ofNat']; omega
  have hd : (8 * (ebytes u - 1) + (t - 3)) / 8 + 1 = ebytes u := by omega
  have hm : (8 * (ebytes u - 1) + (t - 3)) % 8 + 3 = t := by omega
  have hl := be_len (ebytes u) u
  have ht : (be (ebytes u) u ++ b).take (ebytes u) = be (ebytes u) u := by
    conv => lhs; rw [show ebytes u = (be (ebytes u) u).length from hl.symm]
    rw [hl]
    conv => lhs; arg 1; rw [← hl]
    simp
  have hv : bval (be (ebytes u) u) = u := by rw [bval_be, Nat.mod_eq_of_lt hr]
  have hdr : (be (ebytes u) u ++ b).drop (ebytes u) = b := by
    have := List.drop_left (l₁ := be (ebytes u) u) (l₂ := b)
    rwa [hl] at this
  unfold elay etake
  rw [List.cons_append]
  simp only [hc, hd, hm]
  rw [if_neg (by omega), if_neg (by rw [List.length_append, hl]; omega), ht, hv, if_neg (by simp), hx]
  simp only [hdr]
end Go.Proofs.YtblpkmmhmdpkjaaGreatDoor

/- Contracts of layer 7's reference: Plain, Made, Put. -/







namespace Go.Proofs.YtblpkmmhmdpkjaaGreatDoor

open Go.RowKit

theorem emade_true (u : Nat) : emade u true = some (vzag (u : Int)) := by unfold emade; rw [if_pos rfl]
theorem emade_low {U : Int} (h0 : 0 ≤ U) (h : U < 9223372036854775808) : emade U.toNat false = some U := by unfold emade; rw [if_neg (by simp), if_pos (by omega), Int.toNat_of_nonneg h0]
theorem emade_high {U : Int} (h : 9223372036854775808 ≤ U) : emade U.toNat false = none := by unfold emade; rw [if_neg (by simp), if_neg (by omega)]
theorem bv_low7 {y : Nat} (h : y < 256) : Value.int .u8 (y : Int) = bv (UInt8.ofNat y) := by unfold bv; congr 1; simp; omega
theorem own_one (w : World) (e : TypeId) (u : Value) {base : Nat} (hb : base ≤ w.heap.size) : (w.alloc (.cells #[u] e)).ownsRow base e 1 (.slice (some ⟨w.heap.size, 0, none⟩) 1 1) 1 [u] :=
  ⟨by simp, .inr ⟨w.heap.size, 1, #[u], rfl, hb, heap_alloc_new w _, Nat.le_refl _, by unfold maxLen; omega, by simp, by simp⟩⟩
theorem eput_times {x t : Int} {s : Bool} (h : t < 3 ∨ 10 < t) : eput x t s = ([], 1) := by unfold eput; rw [if_pos h]
theorem eput_not {x t : Int} {s : Bool} (h : eplain x s = none) : eput x t s = ([], 1) := by unfold eput; split <;> simp [h]
theorem eput_ok {x : Int} {t u : Nat} {s : Bool} (h3 : 3 ≤ t) (h10 : t ≤ 10) (h : eplain x s = some u) : eput x t s = (elay u t, 0) := by
  unfold eput
  rw [if_neg (by omega), h, Int.toNat_natCast]
end Go.Proofs.YtblpkmmhmdpkjaaGreatDoor

/- The contract of layer 7's reference's Take. -/



namespace Go.Proofs.YtblpkmmhmdpkjaaGreatDoor

open Go.RowKit

theorem results_tmp4 {fn : Func} {t u v x : Tmp} (h : fn.results = #[.tmp t, .tmp u, .tmp v, .tmp x]) (tmps : Array Value) (P : Program) (w : World) :
    (results fn tmps).run P w = .ok (.tuple #[tmps.getD t undef, tmps.getD u undef, tmps.getD v undef, tmps.getD x undef]) w := by
  simp [results, h]
/-- A number, how often, bytes and an error that a call answers. -/
def RetT7 (w : World) (p : Int × Int × List UInt8 × Int) (e : Ending) (w' : World) : Prop :=
  ∃ v, e = .returned (.tuple #[.int .i64 p.1, .int .i64 p.2.1, v, .int .i64 p.2.2.2]) ∧ IsB p.2.2.1 v w' ∧ Below w.heap.size w w'
theorem RetT7.no {w w' : World} (hb : Below w.heap.size w w') : RetT7 w (0, 0, [], 2) (.returned (.tuple #[.int .i64 0, .int .i64 0, .slice none 0 0, .int .i64 2])) w' := ⟨_, rfl, isB_nil _, hb⟩
/-- The same, the bytes in a row of the call's own. -/
def RetT7O (w : World) (p : Int × Int × List UInt8 × Int) (e : Ending) (w' : World) : Prop :=
  ∃ v, e = .returned (.tuple #[.int .i64 p.1, .int .i64 p.2.1, v, .int .i64 p.2.2.2]) ∧ OwnB w p.2.2.1 v w' ∧ Below w.heap.size w w'
theorem RetT7O.no {w w' : World} (hb : Below w.heap.size w w') : RetT7O w (0, 0, [], 2) (.returned (.tuple #[.int .i64 0, .int .i64 0, .slice none 0 0, .int .i64 2])) w' := ⟨_, rfl, OwnB.nil _ _, hb⟩
theorem etake_nil (s : Bool) : etake [] s = (0, 0, [], 2) := rfl
theorem etake_big {l : List UInt8} {s : Bool} (h0 : 0 < l.length) (h : 64 ≤ l[0].toNat) : etake l s = (0, 0, [], 2) := by
  cases l with
  | nil => simp at h0
  | cons b r => simp at h; unfold etake; simp only []; rw [if_pos h]
theorem etake_short {l : List UInt8} {s : Bool} {K : Nat} (h0 : 0 < l.length) (hK : K = l[0].toNat / 8 + 1) (h : l.length < K + 1) : etake l s = (0, 0, [], 2) := by
  cases l with
  | nil => simp at h0
  | cons b r =>
    simp at hK h
    unfold etake; simp only []
    rw [← hK]
    split
    · rfl
    · first | rfl | rw [if_pos (by omega)]
theorem etake_none {l : List UInt8} {s : Bool} {K u : Nat} (h0 : 0 < l.length) (hK : K = l[0].toNat / 8 + 1) (hu : u = bval ((l.drop 1).take K)) (h : emade u s = none ∨ ebytes u ≠ K) : etake l s = (0, 0, [], 2) := by
  cases l with
  | nil => simp at h0
  | cons b r =>
    simp at hK hu
    unfold etake; simp only []
    rw [← hK, ← hu]
    split
    · rfl
    split
    · rfl
    split
    · rfl
    · rename_i h3
      rcases h with h | h
      · rw [h]
      · exact absurd h h3
theorem etake_some {l : List UInt8} {s : Bool} {K u : Nat} {x : Int} (h0 : 0 < l.length) (hK : K = l[0].toNat / 8 + 1) (h64 : l[0].toNat < 64) (hl : K + 1 ≤ l.length) (hu : u = bval ((l.drop 1).take K)) (h : emade u s = some x) (hb : ebytes u = K) :
    etake l s = (x, ((l[0].toNat % 8 + 3 : Nat) : Int), l.drop (K + 1), 0) := by
  cases l with
  | nil => simp at h0
  | cons b r =>
    simp at hK hu hl h64
    unfold etake; simp only []
    rw [← hK, ← hu, if_neg (by omega), if_neg (by omega), if_neg (by omega), h]
    simp
theorem bval_at (r : List UInt8) (k : Nat) (h : k < r.length) : bval (r.take (k + 1)) = 256 * bval (r.take k) + r[k].toNat := by
  rw [List.take_succ_eq_append_getElem h, bval_append]
  simp [bval]
  omega
theorem bval_seven (r : List UInt8) {k : Nat} (h : k ≤ 7) : ((bval (r.take k) : Nat) : Int) < 72057594037927936 := by
  have h1 := bval_lt (r.take k)
  have h2 : 256 ^ (r.take k).length ≤ 256 ^ 7 := Nat.pow_le_pow_right (by omega) (by rw [List.length_take]; omega)
  omega
theorem bval_eight (r : List UInt8) {k : Nat} (h : k ≤ 8) : bval (r.take k) < 2 ^ 64 := by
  have h1 := bval_lt (r.take k)
  have h2 : 256 ^ (r.take k).length ≤ 256 ^ 8 := Nat.pow_le_pow_right (by omega) (by rw [List.length_take]; omega)
  omega
end Go.Proofs.YtblpkmmhmdpkjaaGreatDoor
