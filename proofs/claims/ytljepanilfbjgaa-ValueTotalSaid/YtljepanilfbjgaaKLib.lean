
/- Contracts of what the program's layer 12 calls of Go's library: strings.HasPrefix, strings.Compare, cmp.Compare at int. -/

import Derived.Test.YtljepanilfbjgaaKPlain

import Derived.Test.YtljepanilfbjgaaCom

import Derived.Lib.Strings

import Derived.Lib.Slices

import Derived.Lib.Small

import Derived.Lib.Bytealg

namespace Go.Proofs.Ytljepanilfbjgaa

open Go.RowKit

set_option maxHeartbeats 1000000 in
theorem llite_prefix (s p : ByteArray) (w : World) : Calls Try.prog 19 #[.string s, .string p] w fun e w' => e = .returned (.bool (Lib.hasPrefix s.data.toList p.data.toList)) ∧ w = w' := by
  rw [← Lib.hasPrefix_of_take, ← Lib.size_eq, ← Lib.size_eq]
  go_enter Try.func19, Try.ntmps19
  go_wp2
  · rename_i h
    go_ret
    refine ⟨?_, rfl⟩
    show Ending.returned (Value.bool ((s.extract 0 p.size).toList == p.toList)) = _
    rw [Lib.extract_toList, Lib.toList_data]
    simp [h]
  · rename_i h
    go_ret
    refine ⟨?_, rfl⟩
    show Ending.returned (Value.bool false) = _
    simp [h]
theorem lprefix_any (s p : ByteArray) (w : World) : Calls Try.prog 17 #[.string s, .string p] w fun e w' => e = .returned (.bool (Lib.hasPrefix s.data.toList p.data.toList)) ∧ w = w' := by
  go_enter Try.func17, Try.ntmps17
  go_wp2_with (go_at_call 19; refine (llite_prefix _ _ _).mono ?_; rintro e w' ⟨rfl, rfl⟩)
  go_ret
  exact ⟨rfl, rfl⟩
set_option maxHeartbeats 1000000 in
theorem lcompareI_any (x y : Int) (w : World) : Calls Try.prog 10 #[.int .i64 x, .int .i64 y] w fun e w' => e = .returned (.int .i64 (Lib.compareInt x y)) ∧ w = w' := by
  go_enter Try.func10, Try.ntmps10
  go_wp2
  all_goals (go_ret; refine ⟨?_, rfl⟩; unfold Lib.compareInt; (repeat' split) <;> first | rfl | (exfalso; omega))
set_option maxHeartbeats 1000000 in
set_option maxRecDepth 100000 in
theorem lbytealg_any (a b : ByteArray) (w : World) : Calls Try.prog 16 #[.string a, .string b] w fun e w' => e = .returned (.int .i64 (Lib.compareBytes a.data.toList b.data.toList)) ∧ w = w' := by
  go_enter Try.func16, Try.ntmps16
  go_wp2
  rw [run_callFunc_extern Try.func18 (by kernel_rfl) (by kernel_rfl) (by kernel_rfl) (e := Extern.BytealgCompare.compare) (by kernel_rfl), Lib.run_compareString]
  simp only [Result.andThen]
  rw [Oper.upon_value]
  go_wp2
  go_ret
  exact ⟨rfl, rfl⟩
theorem lcompareS_any (a b : ByteArray) (w : World) : Calls Try.prog 11 #[.string a, .string b] w fun e w' => e = .returned (.int .i64 (Lib.compareBytes a.data.toList b.data.toList)) ∧ w = w' := by
  go_enter Try.func11, Try.ntmps11
  go_wp2_with (go_at_call 16; refine (lbytealg_any _ _ _).mono ?_; rintro e w' ⟨rfl, rfl⟩)
  go_ret
  exact ⟨rfl, rfl⟩
/-- strings.Compare's answer in the words of layer 12. -/
theorem compareBytes_lists : ∀ a b : List UInt8, Lib.compareBytes a b = if a = b then 0 else if a < b then -1 else 1
  | [], [] => by simp [Lib.compareBytes]
  | [], _ :: _ => by simp [Lib.compareBytes]
  | _ :: _, [] => by simp [Lib.compareBytes]
  | x :: a, y :: b => by
    have ih := compareBytes_lists a b
    unfold Lib.compareBytes
    rw [ih]
    by_cases h1 : x < y
    · rw [if_pos h1, if_neg (fun h => by injection h with h _; subst h; exact absurd h1 (UInt8.lt_irrefl x)), if_pos (List.cons_lt_cons_iff.2 (.inl h1))]
    · rw [if_neg h1]
      by_cases h2 : y < x
      · rw [if_pos h2, if_neg (fun h => by injection h with h _; subst h; exact absurd h2 (UInt8.lt_irrefl x)), if_neg]
        intro h
        rcases List.cons_lt_cons_iff.1 h with h | ⟨h, _⟩
        · exact h1 h
        · subst h; exact absurd h2 (UInt8.lt_irrefl x)
      · rw [if_neg h2]
        have hxy : x = y := by
          apply UInt8.le_antisymm
          · exact UInt8.not_lt.1 h2
          · exact UInt8.not_lt.1 h1
        subst hxy
        by_cases h3 : a = b
        · subst h3; simp
        · rw [if_neg h3, if_neg (fun h => h3 (List.cons.inj h).2)]
          by_cases h4 : a < b
          · rw [if_pos h4, if_pos (List.cons_lt_cons_iff.2 (.inr ⟨rfl, h4⟩))]
          · rw [if_neg h4, if_neg]
            intro h
            rcases List.cons_lt_cons_iff.1 h with h | ⟨_, h⟩
            · exact absurd h (UInt8.lt_irrefl x)
            · exact h4 h
theorem compareBytes_sless (a b : ByteArray) : Lib.compareBytes a.data.toList b.data.toList = if a = b then 0 else if sless a b = true then -1 else 1 := by
  rw [compareBytes_lists]
  by_cases h : a = b
  · subst h; simp
  · rw [if_neg h, if_neg (fun h2 => h (bytes_ext h2))]
    by_cases h2 : sless a b = true
    · rw [if_pos h2, if_pos ((sless_iff a b).1 h2)]
    · rw [if_neg h2, if_neg (fun h3 => h2 ((sless_iff a b).2 h3))]
end Go.Proofs.Ytljepanilfbjgaa
