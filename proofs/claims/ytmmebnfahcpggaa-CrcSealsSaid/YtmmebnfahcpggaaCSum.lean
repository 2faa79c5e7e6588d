/- Contracts of layer 4: Sum, and the reference's Sum. -/
import Derived.Test.YtmmebnfahcpggaaCNew
namespace Go.Proofs.Ytmmebnfahcpggaa
open Go.RowKit

theorem craw_take (l : List UInt8) {k : Nat} (h : k < l.length) (r : Nat) : craw (l.take (k + 1)) r = cstep (craw (l.take k) r) l[k].toNat := by
  rw [List.take_succ_eq_append_getElem h, craw_snoc]
theorem cbyte (r x : Nat) (h : x < 256) : (r ^^^ x) % 256 = r % 256 ^^^ x := by rw [xor_mod256, Nat.mod_eq_of_lt h]
def SumRel (l : List UInt8) (w : World) (v i : Value) (wr : World) : Prop :=
  ∃ k r : Nat, k ≤ l.length ∧ r = craw (l.take k) 4294967295 ∧ v = .int .u32 (r : Int) ∧ i = .int .i64 (k : Int) ∧ wr = w
set_option maxRecDepth 100000 in
theorem sum_any (g : Nat) (l : List UInt8) (v : Value) (w : World) (ht : Tabl g w) (hl : IsB l v w) (hlen : l.length ≤ 1000000) :
    Calls Try.prog 10 #[.pointer (some ⟨g, 0, none⟩), v] w fun e w' => e = .returned (.int .u32 (csum l : Int)) ∧ w = w' := by
  obtain ⟨A, c, rfl, _, _, _, hlies⟩ := hl
  obtain ⟨n, hn⟩ : ∃ n, n = l.length := ⟨_, rfl⟩
  rw [← hn] at hlen ⊢
  have HN := Lib.hid hn
  have HT := Lib.hid ht
  have HLi := Lib.hid hlies
  clear hn ht hlies
  go_enter Try.func10, Try.ntmps10
  go_wp2
  go_loopw [5, 10] (SumRel l w) (fun _ i _ => n - (intOf i).toNat)
  case atStart => exact ⟨0, 4294967295, by omega, rfl, rfl, rfl, rfl⟩
  case round =>
    obtain ⟨k, r, hk, hr, rfl, rfl, rfl⟩ := hrel
    have hr32 : r < 4294967296 := by rw [hr]; exact craw_lt _ (by omega)
    have HR := Lib.hid hr
    have hk' : k ≤ n := by have := HN.out; omega
    clear hr hk
    by_cases hlt : k < n
    · have hkl : k < l.length := by have := HN.out; omega
      obtain ⟨ad, rfl, _, hcell⟩ := HLi.out.cell (k := k) (by simpa using hkl)
      obtain ⟨x, hx⟩ : ∃ x : Nat, x = l[k].toNat := ⟨_, rfl⟩
      have hx8 : x < 256 := by rw [hx]; exact UInt8.toNat_lt _
      have hcx : wr.cell? (ad.add k) = some (.int .u8 (x : Int)) := by rw [hcell, List.getElem_map, hx]; rfl
      have HX := Lib.hid hx
      obtain ⟨j, hj⟩ : ∃ j : Nat, j = (r ^^^ x) % 256 := ⟨_, rfl⟩
      have hj8 : j < 256 := by omega
      have hxor : bits .xor .u8 ((r : Int) % 256) (x : Int) = (j : Int) := by
        rw [show (r : Int) % 256 = ((r % 256 : Nat) : Int) by simp, u8_xor_nat _ _ (by omega) hx8, hj, cbyte r x hx8]
      obtain ⟨q, hq⟩ : ∃ q : Nat, q = centry j := ⟨_, rfl⟩
      have hq32 : q < 4294967296 := by rw [hq]; exact centry_lt ⟨j, hj8⟩
      have hct : wr.cell? ⟨g, j, none⟩ = some (.int .u32 (q : Int)) := by
        obtain ⟨t, hrow⟩ := HT.out
        rw [hrow.cell, ctab_at? hj8, hq]
      have HS : Hid (craw (l.take (k + 1)) 4294967295 = r / 256 ^^^ q) := Lib.hid (by rw [craw_take l hkl, ← HR.out, ← hx, cstep, ← hj, ← hq])
      have hR : Value.int .u32 (bits .xor .u32 ((r : Int) / 256) (q : Int)) = .int .u32 ((r / 256 ^^^ q : Nat) : Int) := xor_32 (a := r / 256) (b := q) (by omega) hq32
      have HRR := Lib.hid hR
      clear hx hj hq hcell hR
      go_wp2
      go_roundw
      case rel => exact ⟨k + 1, r / 256 ^^^ q, by have := HN.out; omega, HS.out.symm, HRR.out, by go_num, rfl⟩
      case measure => simp [intOf]; omega
    · obtain rfl : k = n := by omega
      have hf : bits .xor .u32 4294967295 (r : Int) = (csum l : Int) := by
        have h1 := HR.out
        rw [List.take_of_length_le (by have := HN.out; omega)] at h1
        rw [show (4294967295 : Int) = ((4294967295 : Nat) : Int) from rfl, u32_xor_nat _ _ (by omega) hr32, csum, ← h1, Nat.xor_comm]
      have HF := Lib.hid hf
      clear hf
      go_wp2
      go_ret
      exact ⟨ret_int HF.out, rfl⟩
set_option maxRecDepth 100000 in
theorem rsum_any (l : List UInt8) (v : Value) (w : World) (hl : IsB l v w) (hlen : l.length ≤ 1000000) :
    Calls Try.prog 11 #[v] w fun e w' => e = .returned (.int .u32 (csum l : Int)) ∧ w = w' := by
  obtain ⟨A, c, rfl, _, _, _, hlies⟩ := hl
  obtain ⟨n, hn⟩ : ∃ n, n = l.length := ⟨_, rfl⟩
  rw [← hn] at hlen ⊢
  have HN := Lib.hid hn
  have HLi := Lib.hid hlies
  clear hn hlies
  go_enter Try.func11, Try.ntmps11
  go_wp2
  go_loopw [3, 4] (SumRel l w) (fun _ i _ => n - (intOf i).toNat)
  case atStart => exact ⟨0, 4294967295, by omega, rfl, rfl, rfl, rfl⟩
  case round =>
    obtain ⟨k, r, hk, hr, rfl, rfl, rfl⟩ := hrel
    have hr32 : r < 4294967296 := by rw [hr]; exact craw_lt _ (by omega)
    have HR := Lib.hid hr
    have hk' : k ≤ n := by have := HN.out; omega
    clear hr hk
    by_cases hlt : k < n
    · have hkl : k < l.length := by have := HN.out; omega
      obtain ⟨ad, rfl, _, hcell⟩ := HLi.out.cell (k := k) (by simpa using hkl)
      obtain ⟨x, hx⟩ : ∃ x : Nat, x = l[k].toNat := ⟨_, rfl⟩
      have hx8 : x < 256 := by rw [hx]; exact UInt8.toNat_lt _
      have hcx : wr.cell? (ad.add k) = some (.int .u8 (x : Int)) := by rw [hcell, List.getElem_map, hx]; rfl
      have HX := Lib.hid hx
      obtain ⟨y, hy⟩ : ∃ y : Nat, y = r ^^^ x := ⟨_, rfl⟩
      have hy32 : y < 4294967296 := by rw [hy]; exact Nat.xor_lt_two_pow (n := 32) hr32 (by omega)
      have hxor : bits .xor .u32 (r : Int) (x : Int) = (y : Int) := by rw [u32_xor_nat _ _ hr32 (by omega), hy]
      obtain ⟨j, hj⟩ : ∃ j : Nat, j = y % 256 := ⟨_, rfl⟩
      have hj8 : j < 256 := by omega
      have hyj : (y : Int) % 256 = (j : Int) := by omega
      obtain ⟨q, hq⟩ : ∃ q : Nat, q = centry j := ⟨_, rfl⟩
      have hq32 : q < 4294967296 := by rw [hq]; exact centry_lt ⟨j, hj8⟩
      have hE := fun w => rentry_any j w hj8
      rw [← hq] at hE
      have HE := Lib.hid hE
      have HS : Hid (craw (l.take (k + 1)) 4294967295 = r / 256 ^^^ q) := Lib.hid (by rw [craw_take l hkl, ← HR.out, ← hx, cstep, ← hy, ← hj, ← hq])
      have hR : Value.int .u32 (bits .xor .u32 ((r : Int) / 256) (q : Int)) = .int .u32 ((r / 256 ^^^ q : Nat) : Int) := xor_32 (a := r / 256) (b := q) (by omega) hq32
      have HRR := Lib.hid hR
      clear hx hj hq hcell hR hE hy
      go_wp2_with (go_at_call 12; refine (HE.out _).mono ?_; rintro e w' ⟨rfl, rfl⟩)
      go_roundw
      case rel => exact ⟨k + 1, r / 256 ^^^ q, by have := HN.out; omega, HS.out.symm, HRR.out, by go_num, rfl⟩
      case measure => simp [intOf]; omega
    · obtain rfl : k = n := by omega
      have hf : bits .xor .u32 (r : Int) 4294967295 = (csum l : Int) := by
        have h1 := HR.out
        rw [List.take_of_length_le (by have := HN.out; omega)] at h1
        rw [show (4294967295 : Int) = ((4294967295 : Nat) : Int) from rfl, u32_xor_nat _ _ hr32 (by omega), csum, ← h1]
      have HF := Lib.hid hf
      clear hf
      go_wp2
      go_ret
      exact ⟨ret_int HF.out, rfl⟩
end Go.Proofs.Ytmmebnfahcpggaa
