
/- Contract of layer 12's reference: whether a column's name may be. -/

import Derived.Test.YtljepanilfbjgaaDoorKRef

namespace Go.Proofs.YtljepanilfbjgaaDoor

open Go.RowKit

/-- Whether a byte may stand in a name (its value as a number). -/
def kchar (c : Int) : Bool := !((decide (c < 97) || decide (122 < c)) && (decide (c < 48) || decide (57 < c)) && (c != 95))
def kchars (s : ByteArray) (k : Nat) : Prop := ∀ j, (h : j < s.size) → j < k → kchar (s[j].toNat : Int) = true
noncomputable instance (s : ByteArray) (k : Nat) : Decidable (kchars s k) := Classical.propDecidable _
noncomputable def kname (s : ByteArray) : Bool := decide (kchars s s.size) && (!(s.toList == []) && decide ((s.size : Int) ≤ 20))
theorem kchar_yes (c : Int) : kchar c = true ↔ ¬((c < 97 ∨ 122 < c) ∧ (c < 48 ∨ 57 < c) ∧ c ≠ 95) := by
  unfold kchar
  simp only [Bool.not_eq_true', Bool.and_eq_false_iff, Bool.or_eq_false_iff, decide_eq_false_iff_not, bne_eq_false_iff_eq]
  omega
theorem kname_no {s : ByteArray} {k : Nat} (h : k < s.size) (hk : ¬ kchar (s[k].toNat : Int) = true) : false = kname s := by
  unfold kname
  rw [decide_eq_false fun h2 => hk (h2 k h h)]
  rfl
theorem kchars_next {s : ByteArray} {k : Nat} (hc : kchars s k) (h : k < s.size) (hk : kchar (s[k].toNat : Int) = true) : kchars s (k + 1) := by
  intro j hj hjk
  by_cases e : j = k
  · subst e; exact hk
  · exact hc j hj (by omega)
def NameRel (s : ByteArray) (i : Value) : Prop := ∃ k : Nat, k ≤ s.size ∧ i = .int .i64 (k : Int) ∧ kchars s k
set_option maxHeartbeats 1000000 in
set_option maxRecDepth 100000 in
theorem rname12_any (s : ByteArray) (w : World) (hs : s.size ≤ maxLen) : Calls Tryd.prog 20 #[.string s] w fun e w' => e = .returned (.bool (kname s)) ∧ w = w' := by
  have hsi : (s.size : Int) ≤ 9223372036854775807 := by unfold maxLen at hs; omega
  go_enter Tryd.func20, Tryd.ntmps20
  go_wp2
  go_loop [3] (NameRel s) (fun i => s.size - (intOf i).toNat)
  case atStart => exact ⟨0, Nat.zero_le _, rfl, fun j _ h => absurd h (Nat.not_lt_zero _)⟩
  case round =>
    obtain ⟨k, hk, rfl, hch⟩ := hrel
    have HCH := Lib.hid hch
    clear hch
    by_cases hlt : k < s.size
    · have hlti : (k : Int) < (s.size : Int) := by omega
      obtain ⟨c, hc⟩ : ∃ c : Int, c = (s[k].toNat : Int) := ⟨_, rfl⟩
      have HC := Lib.hid hc
      have hy := kchar_yes c
      rw [hc] at hy
      have HY := Lib.hid hy
      clear hc hy
      go_wp2
      all_goals first
        | (go_ret
           exact ⟨by rw [← kname_no hlt (by rw [HY.out]; simp only [bne_iff_ne] at *; omega)]; rfl, rfl⟩)
        | (refine ⟨⟨k + 1, by omega, by go_num, kchars_next HCH.out hlt (HY.out.2 (by simp only [bne_eq_false_iff_eq] at *; omega))⟩, by simp [intOf]; omega⟩)
        | (refine ⟨⟨k + 1, by omega, by go_num, kchars_next HCH.out hlt (HY.out.2 (by omega))⟩, by simp [intOf]; omega⟩)
    · obtain rfl : k = s.size := by omega
      have hk : kname s = (!(s.toList == []) && decide ((s.size : Int) ≤ 20)) := by unfold kname; rw [decide_eq_true HCH.out]; rfl
      cases e1 : (s.toList == [])
      · cases e2 : decide ((s.size : Int) ≤ 20)
        all_goals
          rw [e1, e2] at hk
          have HK := Lib.hid hk
          clear hk
          go_wp2
          go_ret
          exact ⟨by rw [HK.out]; rfl, rfl⟩
      · rw [e1] at hk
        have HK := Lib.hid hk
        clear hk
        go_wp2
        go_ret
        exact ⟨by rw [HK.out]; rfl, rfl⟩
end Go.Proofs.YtljepanilfbjgaaDoor
