
/- The contract of layer 12's reference: Row. -/

import Derived.Test.YtljepanilfbjgaaDoorKMay1

import Derived.Test.YtljepanilfbjgaaDoorWide

namespace Go.Proofs.YtljepanilfbjgaaDoor

open Go.RowKit

theorem col_size (W : World) : (sizeOf 36).run Tryd.prog W = .ok 2 W := by kernel_rfl
theorem val_size (W : World) : (sizeOf 23).run Tryd.prog W = .ok 3 W := by kernel_rfl
theorem col_kind (W : World) (a : Addr) : (Instr.fieldAt 36 (.pointer (some a)) 1).run Tryd.prog W = .ok (.pointer (some (a.add 1))) W := by
  simp [Instr.fieldAt, run_underlying Tryd.underlying36, Instr.sureAddr, fieldPlace]
/-- Whether the first k values fit. -/
def kfits (l : List CC) (r : List CV) (k : Nat) : Prop := ∀ j, (h : j < l.length) → (h' : j < r.length) → j < k → kmay l[j].kind r[j] = true
open Classical in
noncomputable def krow (l : List CC) (r : List CV) : Int := if l.length = r.length ∧ kfits l r l.length then 0 else 21
theorem krow_no {l : List CC} {r : List CV} {k : Nat} (h : k < l.length) (h' : k < r.length) (hk : kmay l[k].kind r[k] = false) : krow l r = 21 := by
  unfold krow
  rw [if_neg]
  intro h2
  have := h2.2 k h h' h
  rw [hk] at this
  cases this
theorem kfits_next {l : List CC} {r : List CV} {k : Nat} (hc : kfits l r k) (h : k < l.length) (h' : k < r.length) (hk : kmay l[k].kind r[k] = true) : kfits l r (k + 1) := by
  intro j hj hj' hjk
  by_cases e : j = k
  · subst e; exact hk
  · exact hc j hj hj' (by omega)
def RowRel (l : List CC) (r : List CV) (w : World) (i : Value) (wr : World) : Prop := ∃ k : Nat, k ≤ l.length ∧ i = .int .i64 (k : Int) ∧ kfits l r k ∧ Below w.heap.size w wr
set_option maxHeartbeats 2000000 in
set_option maxRecDepth 100000 in
theorem rrow12_any (l : List CC) (r : List CV) (v1 v2 : Value) (w : World) (hU : Tryd.U8 w) (h1 : IsR ccells l v1 w) (h2 : IsR kcells r v2 w) (hs : ∀ x ∈ r, x.s.size ≤ maxLen) (hb : l.length ≤ 1000000) (hb' : r.length ≤ 1000000) :
    Calls Tryd.prog 13 #[v1, v2] w fun e w' => e = .returned (.int .i64 (krow l r)) ∧ Below w.heap.size w w' := by
  obtain ⟨A, n, c, rfl⟩ := h1.shape
  obtain ⟨B, m, d, rfl⟩ := h2.shape
  have HN := Lib.hid h1.parts.1
  have HM := Lib.hid h2.parts.1
  have H1 := Lib.hid h1
  have H2 := Lib.hid h2
  have HU := Lib.hid hU
  have HSS := Lib.hid hs
  have hn6 : n ≤ 1000000 := by have := HN.out; omega
  have hm6 : m ≤ 1000000 := by have := HM.out; omega
  clear h1 h2 hU hs hb hb'
  by_cases hnm : n = m
  · subst hnm
    go_enter Tryd.func13, Tryd.ntmps13
    go_wp2
    go_loopw [5] (RowRel l r w) (fun i _ => n - (intOf i).toNat)
    case atStart => exact ⟨0, Nat.zero_le _, rfl, fun j _ _ h => absurd h (Nat.not_lt_zero _), Below.refl _ _⟩
    case round =>
      obtain ⟨k, hk, rfl, hfit, hbw⟩ := hrel
      have hkn : k ≤ n := by have := HN.out; omega
      have HF := Lib.hid hfit
      have HB := Lib.hid hbw
      clear hfit hk
      by_cases hlt : k < n
      · have hkl : k < l.length := by have := HN.out; omega
        have hkr : k < r.length := by have := HM.out; omega
        have hlti : (k : Int) < (n : Int) := by omega
        obtain ⟨ad, rfl, had, hcell⟩ := (H1.out.below hbw).at (m := 2) (fun _ => rfl) (by omega) hkl
        obtain ⟨bd, rfl, hbd, hcell2⟩ := (H2.out.below hbw).at (m := 3) (fun _ => rfl) (by omega) hkr
        have HAB := Lib.hid had
        have HBB := Lib.hid hbd
        have HKD0 : wr.cell? (ad.add (k * 2 + 1)) = some (.int .i64 l[k].kind) := hcell 1 (by omega)
        have HX0 : ∀ j v, (kcells r[k])[j]? = some v → wr.cell? (bd.add (k * 3 + j)) = some v := fun j v hj => by
          rw [hcell2 j (by have := (List.getElem?_eq_some_iff.1 hj).1; exact this)]; exact hj
        have HS0 : r[k].s.size ≤ maxLen := HSS.out _ (List.getElem_mem hkr)
        have HNO := Lib.hid (krow_no hkl hkr)
        have HNX := Lib.hid (kfits_next HF.out hkl hkr)
        generalize l[k].kind = kd at *
        generalize r[k] = x at *
        have HKD := Lib.hid HKD0
        have HX := Lib.hid HX0
        have HS := Lib.hid HS0
        clear HKD0 HX0 HS0 hcell hcell2 had hbd hbw
        cases hmay : kmay kd x
        · have HNO' := Lib.hid (HNO.out hmay)
          have HMY := Lib.hid hmay
          clear hmay
          go_wp2
          refine wp_region_list [.is (.slice (some ad) n c), .is (.int .i64 (k : Int)), .is (.pointer (some (ad.add (k * 2)))), .is (.pointer (some ((ad.add (k * 2)).add 1))), .is (.int .i64 kd), .is (.slice (some bd) n d), .is (.int .i64 (k : Int)), .is (.pointer (some (bd.add (k * 3)))), .is (cv x), .is (.bool (kmay kd x)), .is (.bool (kmay kd x))] [some 18, some 19, some 20, some 21, some 22, some 23, some 24, some 25, some 26, some 27, some 6] (by kernel_rfl) (by kernel_rfl) (by kernel_rfl) rfl ⟨?_, ?_, ?_, ?_, ?_, ?_, ?_, ?_, ?_, ?_, ?_, trivial⟩ ?_
          · intro ρ W1 hb1 H
            exact gives_move rfl (H.old 0 _ (by kernel_rfl) rfl) ⟨rfl, Below.refl _ _⟩
          · intro ρ W1 hb1 H
            exact gives_move rfl (H.old 5 _ (by kernel_rfl) rfl) ⟨rfl, Below.refl _ _⟩
          · intro ρ W1 hb1 H
            exact gives_index_wide Tryd.underlying27 col_size rfl (H.new 18 0 (by kernel_rfl)) (H.new 19 1 (by kernel_rfl)) hlt ⟨rfl, Below.refl _ _⟩
          · intro ρ W1 hb1 H
            exact gives_field rfl (H.new 20 2 (by kernel_rfl)) (fun W => col_kind W _) ⟨rfl, Below.refl _ _⟩
          · intro ρ W1 hb1 H
            exact gives_load rfl (H.new 21 3 (by kernel_rfl)) Tryd.underlying3 rfl (by rw [add_add]; exact (hb1.cell (by rw [add_block]; exact HAB.out)).trans HKD.out) ⟨rfl, Below.refl _ _⟩
          · intro ρ W1 hb1 H
            exact gives_move rfl (H.old 1 _ (by kernel_rfl) rfl) ⟨rfl, Below.refl _ _⟩
          · intro ρ W1 hb1 H
            exact gives_move rfl (H.old 5 _ (by kernel_rfl) rfl) ⟨rfl, Below.refl _ _⟩
          · intro ρ W1 hb1 H
            exact gives_index_wide Tryd.underlying38 val_size rfl (H.new 23 5 (by kernel_rfl)) (H.new 24 6 (by kernel_rfl)) hlt ⟨rfl, Below.refl _ _⟩
          · intro ρ W1 hb1 H
            exact gives_load_wide (cs := kcells x) rfl (H.new 25 7 (by kernel_rfl)) Tryd.underlying23 rfl val_size (fun j v hj => by rw [add_add]; exact (hb1.cell (by rw [add_block]; exact HBB.out)).trans (HX.out j v hj)) ⟨rfl, Below.refl _ _⟩
          · intro ρ W1 hb1 H
            have e0 : ρ (.tmp 22) = .int .i64 kd := H.new 22 4 (by kernel_rfl)
            have e1 : ρ (.tmp 26) = cv x := H.new 26 8 (by kernel_rfl)
            refine gives_call rfl (fun _ _ => by kernel_rfl) (H.func _) (args := #[.int .i64 kd, cv x]) (by simp [e0, e1]) ?_
            exact (rmay12_any kd x W1 (Utf8Tabs_below HU.out (below_then HB.out hb1)) HS.out).mono fun e w' h => ⟨_, h.1, rfl, h.2⟩
          · intro ρ W1 hb1 H
            exact gives_assign rfl (H.new 27 9 (by kernel_rfl)) ⟨rfl, Below.refl _ _⟩
          · intro vs W1 hb1 hfs
            have f10 : vs 10 = .bool (kmay kd x) := hfs 10 (by decide)
            clear hfs
            simp only [putAll, Nat.zero_add, Nat.reduceAdd]
            generalize vs 0 = z0
            generalize vs 1 = z1
            generalize vs 2 = z2
            generalize vs 3 = z3
            generalize vs 4 = z4
            generalize vs 5 = z5
            generalize vs 6 = z6
            generalize vs 7 = z7
            generalize vs 8 = z8
            generalize vs 9 = z9
            simp only [f10, Act.put, List.setIfInBounds_toArray, List.set_cons_succ, List.set_cons_zero]
            clear f10
            rw [HMY.out]
            go_wp2
            go_ret
            exact ⟨by rw [HNO'.out]; rfl, below_then HB.out hb1⟩
        · have HNX' := Lib.hid (HNX.out hmay)
          have HMY := Lib.hid hmay
          clear hmay
          go_wp2
          refine wp_region_list [.is (.slice (some ad) n c), .is (.int .i64 (k : Int)), .is (.pointer (some (ad.add (k * 2)))), .is (.pointer (some ((ad.add (k * 2)).add 1))), .is (.int .i64 kd), .is (.slice (some bd) n d), .is (.int .i64 (k : Int)), .is (.pointer (some (bd.add (k * 3)))), .is (cv x), .is (.bool (kmay kd x)), .is (.bool (kmay kd x))] [some 18, some 19, some 20, some 21, some 22, some 23, some 24, some 25, some 26, some 27, some 6] (by kernel_rfl) (by kernel_rfl) (by kernel_rfl) rfl ⟨?_, ?_, ?_, ?_, ?_, ?_, ?_, ?_, ?_, ?_, ?_, trivial⟩ ?_
          · intro ρ W1 hb1 H
            exact gives_move rfl (H.old 0 _ (by kernel_rfl) rfl) ⟨rfl, Below.refl _ _⟩
          · intro ρ W1 hb1 H
            exact gives_move rfl (H.old 5 _ (by kernel_rfl) rfl) ⟨rfl, Below.refl _ _⟩
          · intro ρ W1 hb1 H
            exact gives_index_wide Tryd.underlying27 col_size rfl (H.new 18 0 (by kernel_rfl)) (H.new 19 1 (by kernel_rfl)) hlt ⟨rfl, Below.refl _ _⟩
          · intro ρ W1 hb1 H
            exact gives_field rfl (H.new 20 2 (by kernel_rfl)) (fun W => col_kind W _) ⟨rfl, Below.refl _ _⟩
          · intro ρ W1 hb1 H
            exact gives_load rfl (H.new 21 3 (by kernel_rfl)) Tryd.underlying3 rfl (by rw [add_add]; exact (hb1.cell (by rw [add_block]; exact HAB.out)).trans HKD.out) ⟨rfl, Below.refl _ _⟩
          · intro ρ W1 hb1 H
            exact gives_move rfl (H.old 1 _ (by kernel_rfl) rfl) ⟨rfl, Below.refl _ _⟩
          · intro ρ W1 hb1 H
            exact gives_move rfl (H.old 5 _ (by kernel_rfl) rfl) ⟨rfl, Below.refl _ _⟩
          · intro ρ W1 hb1 H
            exact gives_index_wide Tryd.underlying38 val_size rfl (H.new 23 5 (by kernel_rfl)) (H.new 24 6 (by kernel_rfl)) hlt ⟨rfl, Below.refl _ _⟩
          · intro ρ W1 hb1 H
            exact gives_load_wide (cs := kcells x) rfl (H.new 25 7 (by kernel_rfl)) Tryd.underlying23 rfl val_size (fun j v hj => by rw [add_add]; exact (hb1.cell (by rw [add_block]; exact HBB.out)).trans (HX.out j v hj)) ⟨rfl, Below.refl _ _⟩
          · intro ρ W1 hb1 H
            have e0 : ρ (.tmp 22) = .int .i64 kd := H.new 22 4 (by kernel_rfl)
            have e1 : ρ (.tmp 26) = cv x := H.new 26 8 (by kernel_rfl)
            refine gives_call rfl (fun _ _ => by kernel_rfl) (H.func _) (args := #[.int .i64 kd, cv x]) (by simp [e0, e1]) ?_
            exact (rmay12_any kd x W1 (Utf8Tabs_below HU.out (below_then HB.out hb1)) HS.out).mono fun e w' h => ⟨_, h.1, rfl, h.2⟩
          · intro ρ W1 hb1 H
            exact gives_assign rfl (H.new 27 9 (by kernel_rfl)) ⟨rfl, Below.refl _ _⟩
          · intro vs W1 hb1 hfs
            have f10 : vs 10 = .bool (kmay kd x) := hfs 10 (by decide)
            clear hfs
            simp only [putAll, Nat.zero_add, Nat.reduceAdd]
            generalize vs 0 = z0
            generalize vs 1 = z1
            generalize vs 2 = z2
            generalize vs 3 = z3
            generalize vs 4 = z4
            generalize vs 5 = z5
            generalize vs 6 = z6
            generalize vs 7 = z7
            generalize vs 8 = z8
            generalize vs 9 = z9
            simp only [f10, Act.put, List.setIfInBounds_toArray, List.set_cons_succ, List.set_cons_zero]
            clear f10
            rw [HMY.out]
            go_wp2
            go_roundw
            case rel => exact ⟨k + 1, hkl, by go_num, HNX'.out, below_then HB.out hb1⟩
            case measure => simp [intOf]; omega
      · obtain rfl : k = n := by omega
        have hlti : ¬ (k : Int) < (k : Int) := by omega
        have hk : krow l r = 0 := by
          unfold krow
          rw [if_pos ⟨by have := HN.out; have := HM.out; omega, by rw [HN.out]; exact HF.out⟩]
        have HK := Lib.hid hk
        clear hk
        go_wp2
        go_ret
        exact ⟨by rw [HK.out]; rfl, HB.out⟩
  · have hne : ((n : Int) != (m : Int)) = true := by simpa using fun h => hnm (by omega)
    have hk : krow l r = 21 := by
      unfold krow
      rw [if_neg]
      intro h
      exact hnm (by rw [← HN.out, ← HM.out]; exact h.1)
    have HK := Lib.hid hk
    clear hk
    go_enter Tryd.func13, Tryd.ntmps13
    go_wp2
    go_ret
    exact ⟨by rw [HK.out]; rfl, Below.refl _ _⟩
end Go.Proofs.YtljepanilfbjgaaDoor
