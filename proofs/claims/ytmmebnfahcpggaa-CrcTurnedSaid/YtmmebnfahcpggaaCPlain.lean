/- Sums of bytes (layer 4), as plain mathematics: each step is linear over XOR, and loses nothing; so bytes that are turned turn the sum. -/
namespace Go.Proofs.Ytmmebnfahcpggaa

def csh (r : Nat) : Nat := r / 2 ^^^ (if r % 2 = 1 then 2197175160 else 0)
def centry (i : Nat) : Nat := csh (csh (csh (csh (csh (csh (csh (csh i)))))))
def cstep (r c : Nat) : Nat := r / 256 ^^^ centry ((r ^^^ c) % 256)
def craw : List UInt8 → Nat → Nat
  | [], r => r
  | b :: l, r => craw l (cstep r b.toNat)
def csum (l : List UInt8) : Nat := craw l 4294967295 ^^^ 4294967295
/-- A number of 32 bits as bytes, the lowest first. -/
def cle (s : Nat) : List UInt8 := [UInt8.ofNat (s % 256), UInt8.ofNat (s / 256 % 256), UInt8.ofNat (s / 65536 % 256), UInt8.ofNat (s / 16777216 % 256)]
def cseal (l : List UInt8) : List UInt8 := l ++ cle (csum l)
def copen (l : List UInt8) : Option (List UInt8) := if l.length < 4 ∨ cseal (l.take (l.length - 4)) ≠ l then none else some (l.take (l.length - 4))

theorem xor_div2 (a b : Nat) : (a ^^^ b) / 2 = a / 2 ^^^ b / 2 := Nat.xor_div_two
theorem xor_div256 (a b : Nat) : (a ^^^ b) / 256 = a / 256 ^^^ b / 256 := by
  have := Nat.shiftRight_xor_distrib (a := a) (b := b) (i := 8)
  simpa [Nat.shiftRight_eq_div_pow] using this
theorem xor_mod256 (a b : Nat) : (a ^^^ b) % 256 = a % 256 ^^^ b % 256 := by
  have := Nat.xor_mod_two_pow (a := a) (b := b) (n := 8)
  simpa using this
theorem xor4 (a b c d : Nat) : (a ^^^ b) ^^^ (c ^^^ d) = (a ^^^ c) ^^^ (b ^^^ d) := by
  rw [Nat.xor_assoc, Nat.xor_assoc, ← Nat.xor_assoc b c d, Nat.xor_comm b c, Nat.xor_assoc c b d]
theorem xor_zero_iff (a b : Nat) : a ^^^ b = 0 ↔ a = b := by
  constructor
  · intro h
    have : (a ^^^ b) ^^^ b = 0 ^^^ b := by rw [h]
    rw [Nat.xor_assoc, Nat.xor_self, Nat.xor_zero, Nat.zero_xor] at this
    exact this
  · intro h; rw [h, Nat.xor_self]
theorem csh_xor (a b : Nat) : csh (a ^^^ b) = csh a ^^^ csh b := by
  unfold csh
  rw [xor_div2, xor4]
  congr 1
  have h : (a ^^^ b) % 2 = a % 2 ^^^ b % 2 := by
    have := Nat.xor_mod_two_pow (a := a) (b := b) (n := 1)
    simpa using this
  rw [h]
  rcases Nat.mod_two_eq_zero_or_one a with ha | ha <;> rcases Nat.mod_two_eq_zero_or_one b with hb | hb <;> simp [ha, hb]
theorem centry_xor (a b : Nat) : centry (a ^^^ b) = centry a ^^^ centry b := by
  unfold centry
  simp only [csh_xor]
theorem centry_lt : ∀ i : Fin 256, centry i.val < 4294967296 := by decide +kernel
theorem centry_high : ∀ i : Fin 256, i.val ≠ 0 → 16777216 ≤ centry i.val := by decide +kernel
theorem centry_zero : centry 0 = 0 := by decide +kernel
/-- One byte's step, of the number with the byte. -/
def cg (r : Nat) : Nat := r / 256 ^^^ centry (r % 256)
theorem cg_xor (a b : Nat) : cg (a ^^^ b) = cg a ^^^ cg b := by
  unfold cg
  rw [xor_div256, xor_mod256, centry_xor, xor4]
theorem cstep_cg (r c : Nat) (h : c < 256) : cstep r c = cg (r ^^^ c) := by
  unfold cstep cg
  rw [xor_div256, Nat.div_eq_of_lt h, Nat.xor_zero]
theorem cg_lt {r : Nat} (h : r < 4294967296) : cg r < 4294967296 := by
  unfold cg
  exact Nat.xor_lt_two_pow (n := 32) (by omega) (centry_lt ⟨r % 256, by omega⟩)
theorem cg_zero {d : Nat} (h : d < 4294967296) (hd : cg d = 0) : d = 0 := by
  unfold cg at hd
  have h1 := (xor_zero_iff _ _).1 hd
  by_cases h0 : d % 256 = 0
  · rw [h0, centry_zero] at h1
    omega
  · have := centry_high ⟨d % 256, by omega⟩ h0
    simp only at this
    omega
theorem cg_byte {x : Nat} (h : x < 256) (h0 : x ≠ 0) : 16777216 ≤ cg x ∧ cg x < 4294967296 := by
  refine ⟨?_, cg_lt (by omega)⟩
  unfold cg
  rw [Nat.div_eq_of_lt h, Nat.zero_xor, Nat.mod_eq_of_lt h]
  exact centry_high ⟨x, h⟩ h0
theorem cstep_lt {r c : Nat} (h : r < 4294967296) (hc : c < 256) : cstep r c < 4294967296 := by
  rw [cstep_cg r c hc]
  exact cg_lt (Nat.xor_lt_two_pow (n := 32) h (by omega))
theorem craw_lt : ∀ (l : List UInt8) {r : Nat}, r < 4294967296 → craw l r < 4294967296
  | [], _, h => h
  | b :: l, _, h => craw_lt l (cstep_lt h b.toNat_lt)
theorem csum_lt (l : List UInt8) : csum l < 4294967296 := Nat.xor_lt_two_pow (n := 32) (craw_lt l (by omega)) (by omega)
theorem craw_append : ∀ (l m : List UInt8) (r : Nat), craw (l ++ m) r = craw m (craw l r)
  | [], _, _ => rfl
  | b :: l, m, r => craw_append l m (cstep r b.toNat)
theorem craw_snoc (l : List UInt8) (b : UInt8) (r : Nat) : craw (l ++ [b]) r = cstep (craw l r) b.toNat := by rw [craw_append]; rfl
/-- Numbers that are not the same stay so. -/
theorem craw_inj : ∀ (l : List UInt8) {r s : Nat}, r < 4294967296 → s < 4294967296 → r ≠ s → craw l r ≠ craw l s
  | [], _, _, _, _, h => h
  | b :: l, r, s, hr, hs, h => by
    have hb := b.toNat_lt
    refine craw_inj l (cstep_lt hr hb) (cstep_lt hs hb) ?_
    intro he
    rw [cstep_cg _ _ hb, cstep_cg _ _ hb] at he
    have h1 : cg ((r ^^^ b.toNat) ^^^ (s ^^^ b.toNat)) = 0 := by rw [cg_xor, he, Nat.xor_self]
    rw [xor4, Nat.xor_self, Nat.xor_zero] at h1
    exact h ((xor_zero_iff _ _).1 (cg_zero (Nat.xor_lt_two_pow (n := 32) hr hs) h1))
theorem byte_xor_ne {x y : UInt8} (h : x ≠ y) : x.toNat ^^^ y.toNat ≠ 0 := fun he => h (UInt8.toNat_inj.1 ((xor_zero_iff _ _).1 he))
/-- A byte that is turned, and the one behind it, turned or not, turn what comes of them. -/
theorem cstep_one (r : Nat) {x x' : UInt8} (h : x ≠ x') : cstep r x.toNat ≠ cstep r x'.toNat := by
  have h1 := x.toNat_lt
  have h2 := x'.toNat_lt
  intro he
  rw [cstep_cg _ _ h1, cstep_cg _ _ h2] at he
  have h3 : cg ((r ^^^ x.toNat) ^^^ (r ^^^ x'.toNat)) = 0 := by rw [cg_xor, he, Nat.xor_self]
  rw [xor4, Nat.xor_self, Nat.zero_xor] at h3
  exact byte_xor_ne h (cg_zero (Nat.xor_lt_two_pow (n := 32) (by omega) (by omega)) h3)
theorem cstep_two {r : Nat} (hr : r < 4294967296) {x x' : UInt8} (h : x ≠ x') (y y' : UInt8) : cstep (cstep r x.toNat) y.toNat ≠ cstep (cstep r x'.toNat) y'.toNat := by
  have h1 := x.toNat_lt
  have h2 := x'.toNat_lt
  have h3 := y.toNat_lt
  have h4 := y'.toNat_lt
  have hp := cstep_lt hr h1
  have hq := cstep_lt hr h2
  intro he
  rw [cstep_cg _ _ h3, cstep_cg _ _ h4] at he
  have h5 : cg ((cstep r x.toNat ^^^ y.toNat) ^^^ (cstep r x'.toNat ^^^ y'.toNat)) = 0 := by rw [cg_xor, he, Nat.xor_self]
  rw [xor4] at h5
  have h6 : y.toNat ^^^ y'.toNat < 256 := Nat.xor_lt_two_pow (n := 8) h3 h4
  have h7 := cg_zero (Nat.xor_lt_two_pow (n := 32) (Nat.xor_lt_two_pow (n := 32) hp hq) (by omega)) h5
  have h8 := (xor_zero_iff _ _).1 h7
  have h9 : cstep r x.toNat ^^^ cstep r x'.toNat = cg (x.toNat ^^^ x'.toNat) := by
    rw [cstep_cg _ _ h1, cstep_cg _ _ h2, ← cg_xor, xor4, Nat.xor_self, Nat.zero_xor]
  rw [h9] at h8
  have h10 := (cg_byte (Nat.xor_lt_two_pow (n := 8) h1 h2) (byte_xor_ne h)).1
  omega
theorem csum_ne {l m : List UInt8} (h : craw l 4294967295 ≠ craw m 4294967295) : csum l ≠ csum m := by
  intro he
  unfold csum at he
  have h1 : craw l 4294967295 ^^^ 4294967295 ^^^ (craw m 4294967295 ^^^ 4294967295) = 0 := by rw [he, Nat.xor_self]
  rw [xor4, Nat.xor_self, Nat.xor_zero] at h1
  exact h ((xor_zero_iff _ _).1 h1)
theorem csum_turned1 (p q : List UInt8) {x x' : UInt8} (h : x ≠ x') : csum (p ++ x :: q) ≠ csum (p ++ x' :: q) := by
  refine csum_ne ?_
  rw [craw_append, craw_append]
  have hr : craw p 4294967295 < 4294967296 := craw_lt p (by omega)
  exact craw_inj q (cstep_lt hr x.toNat_lt) (cstep_lt hr x'.toNat_lt) (cstep_one _ h)
theorem csum_turned2 (p q : List UInt8) {x x' : UInt8} (h : x ≠ x') (y y' : UInt8) : csum (p ++ x :: y :: q) ≠ csum (p ++ x' :: y' :: q) := by
  refine csum_ne ?_
  rw [craw_append, craw_append]
  have hr : craw p 4294967295 < 4294967296 := craw_lt p (by omega)
  exact craw_inj q (cstep_lt (cstep_lt hr x.toNat_lt) y.toNat_lt) (cstep_lt (cstep_lt hr x'.toNat_lt) y'.toNat_lt) (cstep_two hr h y y')
theorem cle_inj {s t : Nat} (hs : s < 4294967296) (ht : t < 4294967296) (h : cle s = cle t) : s = t := by
  unfold cle at h
  have e : ∀ a b : Nat, UInt8.ofNat (a % 256) = UInt8.ofNat (b % 256) → a % 256 = b % 256 := by
    intro a b h
    have := congrArg UInt8.toNat h
    simpa using this
  injection h with h0 h
  injection h with h1 h
  injection h with h2 h
  injection h with h3 h
  have := e _ _ h0
  have := e _ _ h1
  have := e _ _ h2
  have := e _ _ h3
  omega
theorem cle_len (s : Nat) : (cle s).length = 4 := rfl
theorem cseal_len (l : List UInt8) : (cseal l).length = l.length + 4 := by simp [cseal, cle_len]
theorem copen_cseal (l : List UInt8) : copen (cseal l) = some l := by
  unfold copen
  have h : (cseal l).take ((cseal l).length - 4) = l := by rw [cseal_len, Nat.add_sub_cancel, cseal]; simp
  rw [h, if_neg (by rw [cseal_len]; simp)]
/-- Other bytes ahead of a sum are no seal, if their sum is another. -/
theorem copen_other {l m : List UInt8} (h : csum l ≠ csum m) : copen (m ++ cle (csum l)) = none := by
  unfold copen
  have ht : (m ++ cle (csum l)).take ((m ++ cle (csum l)).length - 4) = m := by rw [List.length_append, cle_len, Nat.add_sub_cancel]; simp
  rw [ht, if_pos]
  refine .inr ?_
  intro he
  unfold cseal at he
  exact h (cle_inj (csum_lt l) (csum_lt m) (List.append_cancel_left he).symm)
/-- The bytes with another sum behind them are no seal. -/
theorem copen_tail {l t : List UInt8} (ht : t.length = 4) (h : t ≠ cle (csum l)) : copen (l ++ t) = none := by
  unfold copen
  have hk : (l ++ t).take ((l ++ t).length - 4) = l := by rw [List.length_append, ht, Nat.add_sub_cancel]; simp
  rw [hk, if_pos]
  refine .inr ?_
  intro he
  exact h (List.append_cancel_left he).symm
end Go.Proofs.Ytmmebnfahcpggaa
