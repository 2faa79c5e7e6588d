
/- The contract of layer 12's reference: Schema. -/

import Derived.Test.YtljepanilfbjgaaDoorKRow

import Derived.Test.YtljepanilfbjgaaDoorKName

import Derived.BigQuiet

namespace Go.Proofs.YtljepanilfbjgaaDoor

open Go.RowKit

def kcolok (l : List CC) (i : Nat) : Prop := ∃ h : i < l.length, kname l[i].s = true ∧ 1 ≤ l[i].kind ∧ l[i].kind ≤ 7 ∧ ∀ j, (hj : j < i) → l[j].s.toList ≠ l[i].s.toList
open Classical in
noncomputable def kscheme (l : List CC) : Int := if 1 ≤ l.length ∧ l.length ≤ 6 ∧ ∀ i, i < l.length → kcolok l i then 0 else 20
theorem kscheme_no {l : List CC} {i : Nat} (h : i < l.length) (hk : ¬ kcolok l i) : kscheme l = 20 := by
  unfold kscheme
  rw [if_neg]
  exact fun h2 => hk (h2.2.2 i h)
def SchRel (l : List CC) (w : World) (i : Value) (wr : World) : Prop := ∃ k : Nat, k ≤ l.length ∧ i = .int .i64 (k : Int) ∧ (∀ j, j < k → kcolok l j) ∧ Below w.heap.size w wr
def SchRel2 (l : List CC) (k : Nat) (hk : k < l.length) (w : World) (i : Value) (wr : World) : Prop := ∃ j : Nat, j ≤ k ∧ i = .int .i64 (j : Int) ∧ (∀ m, (h : m < j) → (h' : m < k) → l[m].s.toList ≠ l[k].s.toList) ∧ Below w.heap.size w wr
set_option maxHeartbeats 2000000 in
set_option maxRecDepth 100000 in
theorem rschema12_any (l : List CC) (v : Value) (w : World) (h1 : IsR ccells l v w) (hs : ∀ x ∈ l, x.s.size ≤ maxLen) (hb : l.length ≤ 1000000) :
    Calls Tryd.prog 11 #[v] w fun e w' => e = .returned (.int .i64 (kscheme l)) ∧ Below w.heap.size w w' := by
  obtain ⟨A, n, c, rfl⟩ := h1.shape
  have HN := Lib.hid h1.parts.1
  have H1 := Lib.hid h1
  have HSS := Lib.hid hs
  have hn6 : n ≤ 1000000 := by have := HN.out; omega
  clear h1 hs hb
  by_cases hb1 : 1 ≤ n ∧ n ≤ 6
  · have d1 : decide ((n : Int) < 1) = false := decide_eq_false (by omega)
    have d2 : decide ((6 : Int) < (n : Int)) = false := decide_eq_false (by omega)
    go_enter Tryd.func11, Tryd.ntmps11
    go_wp2
    go_loopw [3] (SchRel l w) (fun i _ => n - (intOf i).toNat)
    case atStart => exact ⟨0, Nat.zero_le _, rfl, fun j h => absurd h (Nat.not_lt_zero _), Below.refl _ _⟩
    case round =>
      obtain ⟨k, hk, rfl, hfit, hbw⟩ := hrel
      have hkn : k ≤ n := by have := HN.out; omega
      have HF := Lib.hid hfit
      have HB := Lib.hid hbw
      clear hfit hk
      by_cases hlt : k < n
      · have hkl : k < l.length := by have := HN.out; omega
        have hlti : (k : Int) < (n : Int) := by omega
        obtain ⟨ad, rfl, had, hcell⟩ := (H1.out.below hbw).at (m := 2) (fun _ => rfl) (by omega) hkl
        have HAB := Lib.hid had
        have k0 : wr.cell? (ad.add (k * 2)) = some (.string l[k].s) := hcell 0 (by omega)
        have k1 : wr.cell? ⟨(ad.add (k * 2)).block, (ad.add (k * 2)).off + 1, none⟩ = some (.int .i64 l[k].kind) := by have h := hcell 1 (by omega); rw [← add_add] at h; exact h
        have HS := Lib.hid (HSS.out _ (List.getElem_mem hkl))
        have HNO := Lib.hid (kscheme_no hkl)
        clear hcell had hbw
        go_wp2_with fail
        refine (rname12_any _ wr HS.out).mono ?_
        rintro e w2 ⟨rfl, rfl⟩
        obtain ⟨nm, hnm⟩ : ∃ b, b = kname l[k].s := ⟨_, rfl⟩
        obtain ⟨kd, hkd⟩ : ∃ x, x = l[k].kind := ⟨_, rfl⟩
        rw [← hnm]
        rw [← hkd] at k1
        have HNM := Lib.hid hnm
        have HKD := Lib.hid hkd
        clear hnm hkd
        cases nm
        · go_wp2
          go_ret
          exact ⟨by rw [HNO.out (fun h => by obtain ⟨_, h2, _⟩ := h; rw [← HNM.out] at h2; cases h2)]; rfl, HB.out⟩
        · by_cases c1 : kd < 1
          · have d3 : decide (kd < 1) = true := decide_eq_true c1
            have hno := HNO.out (fun h => by obtain ⟨_, _, h2, _⟩ := h; rw [← HKD.out] at h2; omega)
            have HNO' := Lib.hid hno
            clear hno
            go_wp2
            go_ret
            exact ⟨by rw [HNO'.out]; rfl, HB.out⟩
          · have d3 : decide (kd < 1) = false := decide_eq_false c1
            by_cases c2 : 7 < kd
            · have d4 : decide (7 < kd) = true := decide_eq_true c2
              have hno := HNO.out (fun h => by obtain ⟨_, _, _, h2, _⟩ := h; rw [← HKD.out] at h2; omega)
              have HNO' := Lib.hid hno
              clear hno
              go_wp2
              go_ret
              exact ⟨by rw [HNO'.out]; rfl, HB.out⟩
            · have d4 : decide (7 < kd) = false := decide_eq_false c2
              have HC1 := Lib.hid c1
              have HC2 := Lib.hid c2
              clear c1 c2
              go_wp2
              go_loopw [5] (SchRel2 l k hkl w) (fun i _ => k - (intOf i).toNat)
              case atStart => exact ⟨0, Nat.zero_le _, rfl, fun m h => absurd h (Nat.not_lt_zero _), HB.out⟩
              case round =>
                obtain ⟨j, hj, rfl, hne, hbw2⟩ := hrel
                have HE := Lib.hid hne
                have HB2 := Lib.hid hbw2
                clear hne k0 k1
                by_cases hlt2 : j < k
                · have hjl : j < l.length := by omega
                  have hjn : j < n := by omega
                  have hlti2 : (j : Int) < (k : Int) := by omega
                  have hltj : (j : Int) < (n : Int) := by omega
                  obtain ⟨ad1, hA1, _, hcell⟩ := (H1.out.below hbw2).at (m := 2) (fun _ => rfl) (by omega) hjl
                  obtain ⟨ad2, hA2, _, hcell2⟩ := (H1.out.below hbw2).at (m := 2) (fun _ => rfl) (by omega) hkl
                  injection hA1 with hA1
                  injection hA2 with hA2
                  subst hA1 hA2
                  have g0 : wr.cell? (ad.add (j * 2)) = some (.string l[j].s) := hcell 0 (by omega)
                  have g1 : wr.cell? (ad.add (k * 2)) = some (.string l[k].s) := hcell2 0 (by omega)
                  clear hcell hcell2 hbw2
                  cases e : (l[j].s.toList == l[k].s.toList)
                  · have hne2 : l[j].s.toList ≠ l[k].s.toList := by simpa using e
                    have HN2 := Lib.hid hne2
                    clear hne2
                    go_wp2
                    go_quiet (fail)
                    go_wp2
                    go_roundw
                    case rel =>
                      refine ⟨j + 1, hlt2, by go_num, fun m h h' => ?_, HB2.out.trans ⟨rfl, rfl, rfl, Nat.le_refl _, fun _ _ => rfl⟩⟩
                      by_cases hm : m = j
                      · subst hm; exact HN2.out
                      · exact HE.out m (by omega) h'
                    case measure => simp [intOf]; omega
                  · have heq : l[j].s.toList = l[k].s.toList := by simpa using e
                    have hno := HNO.out (fun h => by obtain ⟨_, _, _, _, h2⟩ := h; exact h2 j hlt2 heq)
                    have HNO' := Lib.hid hno
                    clear hno heq
                    go_wp2
                    go_quiet (fail)
                    go_wp2
                    go_ret
                    exact ⟨by rw [HNO'.out]; rfl, HB2.out.trans ⟨rfl, rfl, rfl, Nat.le_refl _, fun _ _ => rfl⟩⟩
                · obtain rfl : j = k := by omega
                  have hlti2 : ¬ (j : Int) < (j : Int) := by omega
                  go_wp2
                  go_roundw
                  case rel =>
                    refine ⟨j + 1, hkl, by go_num, fun m h => ?_, HB2.out⟩
                    by_cases hm : m = j
                    · subst hm
                      exact ⟨hkl, HNM.out.symm, by rw [← HKD.out]; have := HC1.out; omega, by rw [← HKD.out]; have := HC2.out; omega, fun q hq => HE.out q hq hq⟩
                    · exact HF.out m (by omega)
                  case measure => simp [intOf]; omega
      · obtain rfl : k = n := by omega
        have hlti : ¬ (k : Int) < (k : Int) := by omega
        have hk : kscheme l = 0 := by
          unfold kscheme
          rw [if_pos ⟨by have := HN.out; omega, by have := HN.out; omega, by rw [HN.out]; exact HF.out⟩]
        have HK := Lib.hid hk
        clear hk
        go_wp2
        go_ret
        exact ⟨by rw [HK.out]; rfl, HB.out⟩
  · have hk : kscheme l = 20 := by
      unfold kscheme
      rw [if_neg]
      intro h
      exact hb1 ⟨by rw [← HN.out]; exact h.1, by rw [← HN.out]; exact h.2.1⟩
    have HK := Lib.hid hk
    clear hk
    by_cases h0 : n < 1
    · have d1 : decide ((n : Int) < 1) = true := decide_eq_true (by omega)
      go_enter Tryd.func11, Tryd.ntmps11
      go_wp2
      go_ret
      exact ⟨by rw [HK.out]; rfl, Below.refl _ _⟩
    · have d1 : decide ((n : Int) < 1) = false := decide_eq_false (by omega)
      have d2 : decide ((6 : Int) < (n : Int)) = true := decide_eq_true (by omega)
      go_enter Tryd.func11, Tryd.ntmps11
      go_wp2
      go_ret
      exact ⟨by rw [HK.out]; rfl, Below.refl _ _⟩
end Go.Proofs.YtljepanilfbjgaaDoor
