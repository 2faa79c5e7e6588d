
/- Bits packed one behind the other, as plain mathematics: a row of bytes, and a row of numbers of one width, each as one number. -/

namespace Go.Proofs.Ytffglnccpbbclaa

/-- Bytes as one number, the first one highest. -/
def bval : List UInt8 → Nat
  | [] => 0
  | b :: r => b.toNat * 256 ^ r.length + bval r
/-- Numbers of w bits as one number, the first one highest. -/
def pval (w : Nat) : List Nat → Nat
  | [] => 0
  | x :: r => x * 2 ^ (w * r.length) + pval w r
/-- How many bytes n numbers of w bits need. -/
def bsize (n w : Nat) : Nat := (n * w + 7) / 8
/-- So many bytes that are a number. -/
def be : Nat → Nat → List UInt8
  | 0, _ => []
  | m + 1, N => UInt8.ofNat (N / 256 ^ m % 256) :: be m N

theorem p256 (k : Nat) : 256 ^ k = 2 ^ (8 * k) := by rw [Nat.pow_mul]
theorem be_len (m N : Nat) : (be m N).length = m := by
  induction m with
  | zero => rfl
  | succ m ih => simp [be, ih]
theorem bval_be (m N : Nat) : bval (be m N) = N % 256 ^ m := by
  induction m with
  | zero => simp [be, bval]; omega
  | succ m ih =>
    rw [be, bval, be_len, ih]
    simp only [UInt8.toNat_ofNat', Nat.reducePow, Nat.mod_mod]
    rw [Nat.pow_succ, Nat.mod_mul, Nat.mul_comm]
    omega
theorem bval_lt (l : List UInt8) : bval l < 256 ^ l.length := by
  induction l with
  | nil => simp [bval]
  | cons b r ih =>
    have hb := b.toNat_lt
    have h1 : (b.toNat + 1) * 256 ^ r.length ≤ 256 * 256 ^ r.length := Nat.mul_le_mul_right _ (by omega)
    rw [bval, List.length_cons, Nat.pow_succ]
    rw [Nat.add_mul] at h1
    omega
theorem bval_inj : ∀ (l m : List UInt8), l.length = m.length → bval l = bval m → l = m
  | [], [], _, _ => rfl
  | [], _ :: _, h, _ => by simp at h
  | _ :: _, [], h, _ => by simp at h
  | b :: r, c :: s, h, e => by
    have hl : r.length = s.length := by simpa using h
    have h1 := bval_lt r
    have h2 := bval_lt s
    rw [bval, bval, hl] at e
    rw [hl] at h1
    have hp : 0 < 256 ^ s.length := Nat.pow_pos (by omega)
    have hd : (b.toNat * 256 ^ s.length + bval r) / 256 ^ s.length = b.toNat := by
      rw [Nat.mul_comm, Nat.mul_add_div hp, Nat.div_eq_of_lt h1]; omega
    have hd2 : (c.toNat * 256 ^ s.length + bval s) / 256 ^ s.length = c.toNat := by
      rw [Nat.mul_comm, Nat.mul_add_div hp, Nat.div_eq_of_lt h2]; omega
    have hbc : b.toNat = c.toNat := by rw [← hd, ← hd2, e]
    have hbe : b = c := UInt8.toNat_inj.1 hbc
    subst hbe
    rw [bval_inj r s hl (by omega)]
theorem eq_be {l : List UInt8} {m N : Nat} (hl : l.length = m) (h : bval l = N) : l = be m N := by
  refine bval_inj _ _ (by rw [be_len, hl]) ?_
  rw [bval_be, ← h, Nat.mod_eq_of_lt]
  rw [← hl]
  exact bval_lt l
theorem bval_append (a b : List UInt8) : bval (a ++ b) = bval a * 256 ^ b.length + bval b := by
  induction a with
  | nil => simp [bval]
  | cons x r ih => rw [List.cons_append, bval, bval, ih, List.length_append, Nat.pow_add, Nat.add_mul, Nat.mul_assoc]; omega
theorem bval_zeros (m : Nat) : bval (List.replicate m 0) = 0 := by
  induction m with
  | zero => rfl
  | succ m ih => rw [List.replicate_succ, bval, ih]; simp
theorem bval_get : ∀ (l : List UInt8) (k : Nat) (h : k < l.length), l[k].toNat = bval l / 256 ^ (l.length - 1 - k) % 256
  | b :: r, 0, _ => by
    have hp : 0 < 256 ^ r.length := Nat.pow_pos (by omega)
    simp only [List.getElem_cons_zero, bval, List.length_cons, Nat.add_sub_cancel, Nat.sub_zero]
    rw [Nat.mul_comm, Nat.mul_add_div hp, Nat.div_eq_of_lt (bval_lt r), Nat.add_zero, Nat.mod_eq_of_lt b.toNat_lt]
  | b :: r, k + 1, h => by
    have hk : k < r.length := by simpa using h
    have ih := bval_get r k hk
    simp only [List.getElem_cons_succ, bval, List.length_cons, Nat.add_sub_cancel]
    rw [ih]
    have he : r.length - (k + 1) = r.length - 1 - k := by omega
    rw [he]
    have hs : 256 ^ r.length = 256 ^ (r.length - 1 - k) * (256 ^ k * 256) := by
      rw [← Nat.pow_succ, ← Nat.pow_add]; congr 1; omega
    have hp : 0 < 256 ^ (r.length - 1 - k) := Nat.pow_pos (by omega)
    rw [hs, show b.toNat * (256 ^ (r.length - 1 - k) * (256 ^ k * 256)) = 256 ^ (r.length - 1 - k) * (b.toNat * 256 ^ k * 256) by
      rw [Nat.mul_left_comm, Nat.mul_assoc], Nat.mul_add_div hp]
    omega
theorem bval_set : ∀ (l : List UInt8) (k : Nat) (c : UInt8) (h : k < l.length), bval (l.set k c) + l[k].toNat * 256 ^ (l.length - 1 - k) = bval l + c.toNat * 256 ^ (l.length - 1 - k)
  | b :: r, 0, c, _ => by
    simp only [List.getElem_cons_zero, List.set_cons_zero, bval, List.length_cons, Nat.add_sub_cancel, Nat.sub_zero]
    omega
  | b :: r, k + 1, c, h => by
    have hk : k < r.length := by simpa using h
    have ih := bval_set r k c hk
    simp only [List.getElem_cons_succ, List.set_cons_succ, bval, List.length_cons, Nat.add_sub_cancel, List.length_set]
    have he : r.length - (k + 1) = r.length - 1 - k := by omega
    rw [he]
    omega

/-- What one piece of n bits does: the byte that it is laid into has room for it, and the row has it behind what was laid before. -/
theorem laid_step {out : List UInt8} {m at_ n V piece : Nat} (hm : out.length = m) (hn0 : 0 < n) (hn : n ≤ 8 - at_ % 8) (hat : at_ + n ≤ 8 * m) (hp : piece < 2 ^ n) (hv : bval out = V * 2 ^ (8 * m - at_)) :
    ∃ h : at_ / 8 < out.length, out[at_ / 8].toNat % 2 ^ (8 - at_ % 8) = 0 ∧ out[at_ / 8].toNat + piece * 2 ^ (8 - at_ % 8 - n) < 256 ∧
      piece * 2 ^ (8 - at_ % 8 - n) < 2 ^ (8 - at_ % 8) ∧
      bval (out.set (at_ / 8) (UInt8.ofNat (out[at_ / 8].toNat + piece * 2 ^ (8 - at_ % 8 - n)))) = (V * 2 ^ n + piece) * 2 ^ (8 * m - (at_ + n)) := by
  have hk : at_ / 8 < out.length := by omega
  refine ⟨hk, ?_⟩
  have hg := bval_get out (at_ / 8) hk
  have hs := bval_set out (at_ / 8) (UInt8.ofNat (out[at_ / 8].toNat + piece * 2 ^ (8 - at_ % 8 - n))) hk
  rw [hm] at hg hs
  obtain ⟨r, hr⟩ : ∃ r, r = 8 - at_ % 8 := ⟨_, rfl⟩
  rw [← hr] at hn hs ⊢
  have hr8 : r ≤ 8 := by omega
  have h1 : 8 * m - at_ = 8 * (m - 1 - at_ / 8) + r := by omega
  have h2 : 8 * m - (at_ + n) = 8 * (m - 1 - at_ / 8) + (r - n) := by omega
  have hpp : 0 < 256 ^ (m - 1 - at_ / 8) := Nat.pow_pos (by omega)
  rw [hv, h1, Nat.pow_add, ← p256, show V * (256 ^ (m - 1 - at_ / 8) * 2 ^ r) = 256 ^ (m - 1 - at_ / 8) * (V * 2 ^ r) by rw [Nat.mul_left_comm], Nat.mul_div_cancel_left _ hpp] at hg
  have h256 : 256 = 2 ^ (8 - r) * 2 ^ r := by rw [← Nat.pow_add, show 8 - r + r = 8 by omega]
  have hb : out[at_ / 8].toNat = V % 2 ^ (8 - r) * 2 ^ r := by rw [hg]; conv => lhs; rw [h256, Nat.mul_mod_mul_right]
  have hpc : piece * 2 ^ (r - n) < 2 ^ r := by
    have h3 : 2 ^ r = 2 ^ n * 2 ^ (r - n) := by rw [← Nat.pow_add]; congr 1; omega
    rw [h3]
    exact Nat.mul_lt_mul_of_pos_right hp (Nat.pow_pos (by omega))
  have hlt : out[at_ / 8].toNat + piece * 2 ^ (r - n) < 256 := by
    have h4 : V % 2 ^ (8 - r) < 2 ^ (8 - r) := Nat.mod_lt _ (Nat.pow_pos (by omega))
    have h5 : (V % 2 ^ (8 - r) + 1) * 2 ^ r ≤ 2 ^ (8 - r) * 2 ^ r := Nat.mul_le_mul_right _ h4
    rw [← h256, Nat.add_mul] at h5
    rw [hb]
    omega
  refine ⟨by rw [hb]; exact Nat.mul_mod_left _ _, hlt, hpc, ?_⟩
  have hc : (UInt8.ofNat (out[at_ / 8].toNat + piece * 2 ^ (r - n))).toNat = out[at_ / 8].toNat + piece * 2 ^ (r - n) := by
    simp only [UInt8.toNat_ofNat', Nat.reducePow]
    exact Nat.mod_eq_of_lt hlt
  rw [hc, Nat.add_mul, hv] at hs
  rw [h1] at hs
  rw [h2]
  have h6 : V * 2 ^ (8 * (m - 1 - at_ / 8) + r) = V * 2 ^ n * 2 ^ (8 * (m - 1 - at_ / 8) + (r - n)) := by
    rw [Nat.mul_assoc, ← Nat.pow_add]; congr 2; omega
  have h7 : piece * 2 ^ (r - n) * 256 ^ (m - 1 - at_ / 8) = piece * 2 ^ (8 * (m - 1 - at_ / 8) + (r - n)) := by
    rw [p256, Nat.mul_assoc, ← Nat.pow_add]; congr 2; omega
  rw [Nat.add_mul, ← h6, ← h7]
  omega
theorem laid_at {out : List UInt8} {m at_ n V piece q r d : Nat} (hq : q = at_ / 8) (hr : r = 8 - at_ % 8) (hd : d = r - n) (hm : out.length = m) (hn0 : 0 < n) (hn : n ≤ r) (hat : at_ + n ≤ 8 * m) (hp : piece < 2 ^ n) (hv : bval out = V * 2 ^ (8 * m - at_)) :
    ∃ h : q < out.length, out[q].toNat % 2 ^ r = 0 ∧ out[q].toNat + piece * 2 ^ d < 256 ∧ piece * 2 ^ d < 2 ^ r ∧ bval (out.set q (UInt8.ofNat (out[q].toNat + piece * 2 ^ d))) = (V * 2 ^ n + piece) * 2 ^ (8 * m - (at_ + n)) := by
  subst hq hr hd
  exact laid_step hm hn0 hn hat hp hv
/-- The piece of a number that comes next. -/
theorem piece_step (V0 x W k n : Nat) (hk : k ≤ W) (hn : n ≤ k) : (V0 * 2 ^ (W - k) + x / 2 ^ k) * 2 ^ n + x / 2 ^ (k - n) % 2 ^ n = V0 * 2 ^ (W - (k - n)) + x / 2 ^ (k - n) := by
  have h1 : x / 2 ^ k = x / 2 ^ (k - n) / 2 ^ n := by rw [Nat.div_div_eq_div_mul, ← Nat.pow_add]; congr 2; omega
  have h2 := Nat.div_add_mod (x / 2 ^ (k - n)) (2 ^ n)
  have h3 : 2 ^ (W - (k - n)) = 2 ^ (W - k) * 2 ^ n := by rw [← Nat.pow_add]; congr 1; omega
  rw [h1, h3, Nat.add_mul, Nat.mul_assoc, Nat.mul_comm (x / 2 ^ (k - n) / 2 ^ n)]
  omega

theorem pval_snoc (w : Nat) (l : List Nat) (x : Nat) : pval w (l ++ [x]) = pval w l * 2 ^ w + x := by
  induction l with
  | nil => simp [pval]
  | cons y r ih =>
    rw [List.cons_append, pval, pval, ih, List.length_append, List.length_singleton, Nat.mul_add, Nat.mul_one, Nat.pow_add, Nat.add_mul, Nat.mul_assoc]
    omega
theorem pval_lt {w : Nat} : ∀ {l : List Nat}, (∀ x ∈ l, x < 2 ^ w) → pval w l < 2 ^ (w * l.length)
  | [], _ => by simp [pval]
  | x :: r, h => by
    have ih := pval_lt (l := r) fun y hy => h y (by simp [hy])
    have hx : (x + 1) * 2 ^ (w * r.length) ≤ 2 ^ w * 2 ^ (w * r.length) := Nat.mul_le_mul_right _ (h x (by simp))
    rw [pval, List.length_cons, Nat.mul_add, Nat.mul_one, Nat.pow_add, Nat.mul_comm (2 ^ (w * r.length))]
    rw [Nat.add_mul] at hx
    omega
theorem pval_get {w : Nat} : ∀ {l : List Nat} (k : Nat) (hk : k < l.length), (∀ x ∈ l, x < 2 ^ w) → pval w l / 2 ^ (w * (l.length - 1 - k)) % 2 ^ w = l[k]
  | x :: r, 0, _, h => by
    have ih := pval_lt (l := r) fun y hy => h y (by simp [hy])
    have hp : 0 < 2 ^ (w * r.length) := Nat.pow_pos (by omega)
    simp only [List.getElem_cons_zero, pval, List.length_cons, Nat.add_sub_cancel, Nat.sub_zero]
    rw [Nat.mul_comm x, Nat.mul_add_div hp, Nat.div_eq_of_lt ih, Nat.add_zero, Nat.mod_eq_of_lt (h x (by simp))]
  | x :: r, k + 1, hk, h => by
    have hk' : k < r.length := by simpa using hk
    have ih := pval_get (l := r) k hk' fun y hy => h y (by simp [hy])
    simp only [List.getElem_cons_succ, pval, List.length_cons, Nat.add_sub_cancel]
    have he : r.length - (k + 1) = r.length - 1 - k := by omega
    rw [he]
    have hs : 2 ^ (w * r.length) = 2 ^ (w * (r.length - 1 - k)) * (2 ^ (w * k) * 2 ^ w) := by
      rw [← Nat.pow_add, ← Nat.pow_add]; congr 1
      rw [← Nat.mul_succ, ← Nat.mul_add]; congr 1; omega
    have hp : 0 < 2 ^ (w * (r.length - 1 - k)) := Nat.pow_pos (by omega)
    rw [hs, show x * (2 ^ (w * (r.length - 1 - k)) * (2 ^ (w * k) * 2 ^ w)) = 2 ^ (w * (r.length - 1 - k)) * (2 ^ w * (x * 2 ^ (w * k))) by
      rw [Nat.mul_left_comm, ← Nat.mul_assoc x, Nat.mul_comm (2 ^ w)], Nat.mul_add_div hp, Nat.mul_add_mod]
    exact ih

/-- The bytes of numbers that are packed. -/
def bpack (l : List Nat) (w : Nat) : List UInt8 := be (bsize l.length w) (pval w l * 2 ^ (8 * bsize l.length w - w * l.length))
theorem bsize_le (n w : Nat) : w * n ≤ 8 * bsize n w := by unfold bsize; rw [Nat.mul_comm]; omega
theorem bsize_spare (n w : Nat) : 8 * bsize n w - w * n ≤ 7 := by unfold bsize; rw [Nat.mul_comm w]; omega
theorem bpack_len (l : List Nat) (w : Nat) : (bpack l w).length = bsize l.length w := be_len _ _
theorem bval_bpack {l : List Nat} {w : Nat} (h : ∀ x ∈ l, x < 2 ^ w) : bval (bpack l w) = pval w l * 2 ^ (8 * bsize l.length w - w * l.length) := by
  rw [bpack, bval_be, Nat.mod_eq_of_lt]
  have h1 := pval_lt h
  have h2 := bsize_le l.length w
  rw [p256, show 2 ^ (8 * bsize l.length w) = 2 ^ (w * l.length) * 2 ^ (8 * bsize l.length w - w * l.length) by rw [← Nat.pow_add]; congr 1; omega]
  exact Nat.mul_lt_mul_of_pos_right h1 (Nat.pow_pos (by omega))

/-- So many bits of B, of M bits in all, behind the first at_ bits. -/
def btake (B M at_ w : Nat) : Nat := B / 2 ^ (M - (at_ + w)) % 2 ^ w
theorem btake_lt (B M at_ w : Nat) : btake B M at_ w < 2 ^ w := Nat.mod_lt _ (Nat.pow_pos (by omega))
theorem btake_zero (B M at_ : Nat) : btake B M at_ 0 = 0 := by simp [btake, Nat.mod_one]
theorem btake_add {B M at_ a n : Nat} (h : at_ + a + n ≤ M) : btake B M at_ a * 2 ^ n + btake B M (at_ + a) n = btake B M at_ (a + n) := by
  unfold btake
  have h1 : B / 2 ^ (M - (at_ + a)) = B / 2 ^ (M - (at_ + a + n)) / 2 ^ n := by rw [Nat.div_div_eq_div_mul, ← Nat.pow_add]; congr 2; omega
  rw [h1, show at_ + (a + n) = at_ + a + n by omega]
  generalize B / 2 ^ (M - (at_ + a + n)) = Y
  rw [show 2 ^ (a + n) = 2 ^ n * 2 ^ a by rw [← Nat.pow_add, Nat.add_comm], Nat.mod_mul, Nat.mul_comm]
  omega
/-- A piece of n bits out of one byte. -/
theorem btake_byte {l : List UInt8} {m at_ n : Nat} (hm : l.length = m) (hn : n ≤ 8 - at_ % 8) (hn0 : 0 < n) (hat : at_ + n ≤ 8 * m) :
    ∃ h : at_ / 8 < l.length, l[at_ / 8].toNat / 2 ^ (8 - at_ % 8 - n) % 2 ^ n = btake (bval l) (8 * m) at_ n := by
  have hk : at_ / 8 < l.length := by omega
  refine ⟨hk, ?_⟩
  rw [bval_get l (at_ / 8) hk, hm]
  unfold btake
  obtain ⟨r, hr⟩ : ∃ r, r = 8 - at_ % 8 := ⟨_, rfl⟩
  rw [← hr] at hn ⊢
  have h2 : 8 * m - (at_ + n) = 8 * (m - 1 - at_ / 8) + (r - n) := by omega
  rw [h2, Nat.pow_add, ← p256, ← Nat.div_div_eq_div_mul]
  generalize bval l / 256 ^ (m - 1 - at_ / 8) = Y
  have h256 : 256 = 2 ^ (r - n) * (2 ^ n * 2 ^ (8 - r)) := by rw [← Nat.pow_add, ← Nat.pow_add, show r - n + (n + (8 - r)) = 8 by omega]
  conv => lhs; rw [h256, Nat.mod_mul_right_div_self, Nat.mod_mul_right_mod]
/-- The numbers that bits are. -/
def bnums (B M w n : Nat) : List Nat := (List.range n).map fun i => btake B M (w * i) w
theorem bnums_len (B M w n : Nat) : (bnums B M w n).length = n := by simp [bnums]
theorem bnums_succ (B M w n : Nat) : bnums B M w (n + 1) = bnums B M w n ++ [btake B M (w * n) w] := by simp [bnums, List.range_succ]
theorem bnums_lt {B M w n : Nat} : ∀ x ∈ bnums B M w n, x < 2 ^ w := by
  intro x hx
  obtain ⟨i, _, rfl⟩ := List.mem_map.1 hx
  exact btake_lt _ _ _ _
theorem pval_bnums {B M w : Nat} (hB : B < 2 ^ M) : ∀ n, w * n ≤ M → pval w (bnums B M w n) = B / 2 ^ (M - w * n)
  | 0, _ => by simp [bnums, pval]; rw [Nat.div_eq_of_lt hB]
  | n + 1, h => by
    rw [Nat.mul_add, Nat.mul_one] at h
    rw [bnums_succ, pval_snoc, pval_bnums hB n (by omega)]
    unfold btake
    rw [Nat.mul_add, Nat.mul_one]
    have h1 : B / 2 ^ (M - w * n) = B / 2 ^ (M - (w * n + w)) / 2 ^ w := by rw [Nat.div_div_eq_div_mul, ← Nat.pow_add]; congr 2; omega
    rw [h1, Nat.mul_comm]
    exact Nat.div_add_mod _ _
/-- What is unpacked is packed as the same bytes just if no bit is left over. -/
theorem bpack_bnums {l : List UInt8} {w n : Nat} (hl : l.length = bsize n w) : bpack (bnums (bval l) (8 * bsize n w) w n) w = l ↔ bval l % 2 ^ (8 * bsize n w - w * n) = 0 := by
  have hB : bval l < 2 ^ (8 * bsize n w) := by rw [← p256, ← hl]; exact bval_lt l
  have hv := bval_bpack (l := bnums (bval l) (8 * bsize n w) w n) (w := w) bnums_lt
  rw [bnums_len, pval_bnums hB n (bsize_le n w)] at hv
  have hd := Nat.div_add_mod (bval l) (2 ^ (8 * bsize n w - w * n))
  rw [Nat.mul_comm] at hd
  constructor
  · intro h
    rw [h] at hv
    omega
  · intro h
    refine bval_inj _ _ (by rw [bpack_len, bnums_len, hl]) ?_
    omega
/-- Numbers that are packed are unpacked as they were. -/
theorem bnums_bpack {l : List Nat} {w : Nat} (h : ∀ x ∈ l, x < 2 ^ w) : bnums (bval (bpack l w)) (8 * bsize l.length w) w l.length = l := by
  refine List.ext_getElem (bnums_len _ _ _ _) fun i h1 h2 => ?_
  simp only [bnums, List.getElem_map, List.getElem_range]
  rw [bval_bpack h]
  unfold btake
  have hg := pval_get i h2 h
  have hs := bsize_le l.length w
  have hi : w * i + w ≤ w * l.length := by rw [← Nat.mul_succ]; exact Nat.mul_le_mul_left _ h2
  have he : 8 * bsize l.length w - (w * i + w) = (8 * bsize l.length w - w * l.length) + w * (l.length - 1 - i) := by
    have : w * (l.length - 1 - i) + (w * i + w) = w * l.length := by rw [← Nat.mul_succ, ← Nat.mul_add]; congr 1; omega
    omega
  rw [he, Nat.pow_add, ← Nat.div_div_eq_div_mul, Nat.mul_div_cancel _ (Nat.pow_pos (by omega)), hg]
theorem bpack_spare {l : List Nat} {w : Nat} (h : ∀ x ∈ l, x < 2 ^ w) : bval (bpack l w) % 2 ^ (8 * bsize l.length w - w * l.length) = 0 := by
  rw [bval_bpack h]; exact Nat.mul_mod_left _ _
theorem btake_spare {B M n : Nat} (h : n ≤ M) : btake B M n (M - n) = B % 2 ^ (M - n) := by
  unfold btake
  rw [show M - (n + (M - n)) = 0 by omega]
  simp
end Go.Proofs.Ytffglnccpbbclaa
