/- Texts that the claims of this seat share, part 2: RTake Int VIs Sl OwnV Mask Num Wide WRow Arr RegR WMake YPlain YRef YRTake QPlain QRef QRTake KPlain KRef KLib. -/
import Derived.Deep.RegionWith
import Derived.Deep.RegionLaw
import Derived.BigGuardPart
import Derived.Deep.Grids
import Derived.Deep.WholeRow
import Derived.Sort.Walk0
import Derived.Laws.Strings
import Derived.WalkKit
import Derived.Lib.Strings
import Derived.Lib.Slices
import Derived.Lib.Small
import Derived.Lib.Bytealg
import Derived.Test.YtocodcceimeiiaaDoorG1
/- The contract of the reference's Take. -/











namespace Go.Proofs.YtocodcceimeiiaaDoor

open Go.RowKit

theorem ent11 (args : Array Value) (w : World) : (callFunc 44 args).run Tryd.prog w = .ok (.enter 44 args) w := by kernel_rfl

def RTakeRel (l : List UInt8) (i : Value) : Prop :=
  ∃ k : Nat, i = .int .i64 (k : Int) ∧ k ≤ 9 ∧ k ≤ l.length ∧ ∀ j (h : j < l.length), j < k → 128 ≤ l[j].toNat

def RTakeRel2 (l : List UInt8) (n : Nat) (x i : Value) : Prop :=
  ∃ m : Nat, i = .int .i64 ((m : Int) - 1) ∧ m ≤ n + 1 ∧ x = .int .u64 ((vsum ((l.take (n + 1)).drop m) % 18446744073709551616 : Nat) : Int)

theorem vsum_cut (l : List UInt8) (n m : Nat) (h : m < n + 1) (hl : n < l.length) :
    (128 * (vsum ((l.take (n + 1)).drop (m + 1)) % 18446744073709551616) % 18446744073709551616 + (l[m]'(by omega)).toNat % 128) % 18446744073709551616 = vsum ((l.take (n + 1)).drop m) % 18446744073709551616 := by
  have hm : m < (l.take (n + 1)).length := by rw [List.length_take]; omega
  rw [List.drop_eq_getElem_cons hm, vsum, List.getElem_take]
  omega

set_option maxHeartbeats 1000000 in
set_option maxRecDepth 100000 in
theorem rtake_any (A : Option Addr) (n c : Nat) (l : List UInt8) (w : World) (hA : A = none → n = 0) (hn : l.length = n) (hnc : n ≤ c) (hnb : n ≤ 1000000) (hl : Lies w A (l.map bv)) :
    Calls Tryd.prog 20 #[.slice A n c] w (RetT .u64 w ((vtake l).map fun p => ((p.1 : Int), p.2))) := by
  go_enter Tryd.func20, Tryd.ntmps20
  go_wp2
  go_loop [5] (RTakeRel l) (fun i => 10 - (intOf i).toNat)
  case atStart => exact ⟨0, rfl, by omega, by omega, by omega⟩
  case round =>
    obtain ⟨k, rfl, hk, hkl, hhi⟩ := hrel
    have HH := Lib.hid hhi
    clear hhi
    by_cases hgo : ∃ h : k < l.length, k < 9 ∧ 128 ≤ l[k].toNat
    · obtain ⟨hk1, hk2, hk3⟩ := hgo
      obtain ⟨ad, rfl, _, hc⟩ := hl.cell (k := k) (by rw [List.length_map]; omega)
      obtain ⟨b, hb⟩ : ∃ b : Nat, b = (l[k]'(by omega)).toNat := ⟨_, rfl⟩
      have hcb : w.cell? (ad.add k) = some (.int .u8 (b : Int)) := by rw [hc, List.getElem_map, hb]; rfl
      rw [← hb] at hk3
      have HB := Lib.hid hb
      clear hb hc
      rw [hn] at hk1
      have g1 : (k : Int) < (n : Int) := by omega
      have g2 : (k : Int) < 9 := by omega
      have g3 : (128 : Int) ≤ (b : Int) := by omega
      go_wp2
      go_round
      case rel =>
        refine ⟨k + 1, by go_num, by omega, by omega, ?_⟩
        intro j hj hjk
        by_cases hjk' : j = k
        · subst hjk'; rw [← HB.out]; omega
        · exact HH.out j hj (by omega)
      case measure => simp [intOf]; omega
    · have hst : vstops l k := by
        refine ⟨hk, hkl, HH.out, ?_⟩
        by_cases h9 : k = 9
        · exact .inl h9
        · refine .inr fun h => ?_
          by_cases h128 : 128 ≤ l[k].toNat
          · exact absurd ⟨h, by omega, h128⟩ hgo
          · omega
      have HS := Lib.hid hst
      clear hst hgo
      by_cases hkn : k < n
      · obtain ⟨ad, rfl, _, hc⟩ := hl.cell (k := k) (by rw [List.length_map]; omega)
        obtain ⟨b, hb⟩ : ∃ b : Nat, b = (l[k]'(by omega)).toNat := ⟨_, rfl⟩
        have hcb : w.cell? (ad.add k) = some (.int .u8 (b : Int)) := by rw [hc, List.getElem_map, hb]; rfl
        have hb256 : b < 256 := by rw [hb]; exact UInt8.toNat_lt _
        have HB := Lib.hid hb
        clear hc hb
        have g1 : (k : Int) < (n : Int) := by omega
        by_cases h9 : k = 9
        · have g2 : ¬ (k : Int) < 9 := by omega
          have H9 := Lib.hid h9
          clear h9
          go_wp2
          go_loop [6, 7] (RTakeRel2 l k) (fun _ i => (intOf i + 1).toNat)
          case atStart => exact ⟨k + 1, by go_num, by omega, by simp [vsum]⟩
          case round =>
            obtain ⟨m, rfl, hm, rfl⟩ := hrel
            obtain ⟨X, hX⟩ : ∃ X : Nat, X = vsum (List.drop m (List.take (k + 1) l)) % 18446744073709551616 := ⟨_, rfl⟩
            rw [← hX]
            have hXb : (X : Int) < 18446744073709551616 := by omega
            by_cases hm0 : m = 0
            · subst hm0
              have HX := Lib.hid hX
              clear hX
              have hlt : Lies w (some ad) ((l.take (k + 1)).map bv) := by rw [List.map_take]; exact hl.take _
              have htl : (l.take (k + 1)).length = k + 1 := by rw [List.length_take]; omega
              go_wp2
              refine wp_region_list [.is (.int .u64 (X : Int)), .bytes (vput X), .is (.string ⟨(vput X).toArray⟩), .is (.slice (some ad) n c), .is (.int .i64 (k : Int)), .is (.int .i64 ((k : Int) + 1)), .is (.slice (some ad) (k + 1) c),
                .is (.string ⟨(l.take (k + 1)).toArray⟩), .is (.bool !(vput X == l.take (k + 1)))] [some 43, some 44, some 45, some 46, some 47, some 48, some 49, some 50, some 51] (by kernel_rfl) (by kernel_rfl) (by kernel_rfl) rfl ⟨?_, ?_, ?_, ?_, ?_, ?_, ?_, ?_, ?_, trivial⟩ ?_
              · intro ρ w1 hb1 H
                exact gives_move rfl (H.old 6 _ (by kernel_rfl) rfl) ⟨rfl, Below.refl _ _⟩
              · intro ρ w1 hb1 H
                have e0 : ρ (.tmp 43) = .int .u64 (X : Int) := H.new 43 0 (by kernel_rfl)
                refine gives_call rfl ent11 (H.func _) (args := #[.slice none 0 0, .int .u64 (X : Int)]) (by simp [H.const, e0]) ?_
                refine (rput_any none 0 0 (X : Int) [] _ (by simp) rfl (by omega) Lies.nil (by omega) hXb).mono fun e w2 h => ?_
                exact h.isB
              · intro ρ w1 hb1 H
                obtain ⟨A1, c1, e1, h1, h2, h3, h4⟩ : IsB (vput X) (ρ (.tmp 44)) w1 := H.new 44 1 (by kernel_rfl)
                exact gives_convert rfl e1 (run_text w1 _ _ _ Tryd.underlying22 Tryd.underlying5 Tryd.underlying9 A1 _ c1 _ rfl h4) ⟨rfl, Below.refl _ _⟩
              · intro ρ w1 hb1 H
                exact gives_move rfl (H.old 0 _ (by kernel_rfl) rfl) ⟨rfl, Below.refl _ _⟩
              · intro ρ w1 hb1 H
                exact gives_move rfl (H.old 5 _ (by kernel_rfl) rfl) ⟨rfl, Below.refl _ _⟩
              · intro ρ w1 hb1 H
                exact gives_add rfl (H.new 47 4 (by kernel_rfl)) (H.const _) (by omega) (by omega) ⟨rfl, Below.refl _ _⟩
              · intro ρ w1 hb1 H
                exact gives_upto elemB rfl (H.new 46 3 (by kernel_rfl)) (h := k + 1) (H.new 48 5 (by kernel_rfl)) (by omega) ⟨rfl, Below.refl _ _⟩
              · intro ρ w1 hb1 H
                exact gives_convert rfl (H.new 49 6 (by kernel_rfl)) (run_text w1 _ _ _ Tryd.underlying22 Tryd.underlying5 Tryd.underlying9 _ _ _ _ htl (hlt.below hb1)) ⟨rfl, Below.refl _ _⟩
              · intro ρ w1 hb1 H
                exact gives_textne rfl (H.new 45 2 (by kernel_rfl)) (H.new 50 7 (by kernel_rfl)) ⟨rfl, Below.refl _ _⟩
              · intro vs w1 hb1 hfs
                have f8 : vs 8 = .bool !(vput X == l.take (k + 1)) := hfs 8 (by decide)
                clear hfs
                generalize vs 0 = v0 at *; generalize vs 1 = v1 at *; generalize vs 2 = v2 at *; generalize vs 3 = v3 at *; generalize vs 4 = v4 at *; generalize vs 5 = v5 at *; generalize vs 6 = v6 at *; generalize vs 7 = v7 at *
                by_cases he : vput X = l.take (k + 1)
                · have hb8 : (vput X == l.take (k + 1)) = true := by simpa using he
                  rw [hb8] at f8
                  have HE : Hid (vtake l = some (X, l.drop (k + 1))) := by
                    show vtake l = _
                    have h2 := HX.out
                    rw [List.drop_zero] at h2
                    have h1 := vtake_same (l := l) (n := k) (by rw [← h2]; exact he)
                    rw [h1, ← h2]
                  simp only [putAll, f8, Bool.not_true, Act.put, List.setIfInBounds_toArray, List.set_cons_succ, List.set_cons_zero]
                  clear he hb8 f8
                  have hz1 := hb1.size
                  have hbb : Below w.heap.size w (w1.alloc (.cells #[] 5)) := hb1.alloc hb1.size _
                  have hown0 : (w1.alloc (.cells #[] 5)).ownsRow w.heap.size 5 1 (.slice (some ⟨w1.heap.size, 0, none⟩) 0 0) 0 [] := World.ownsRow_made w1 #[] 0 hb1.size (by unfold maxLen; omega) (by simp)
                  have hdl : ((l.drop (k + 1)).map bv).length = n - (k + 1) := by rw [List.length_map, List.length_drop, hn]
                  have hlk : Lies (w1.alloc (.cells #[] 5)) (some ⟨ad.block, ad.off + (k + 1), none⟩) ((l.drop (k + 1)).map bv) := by rw [List.map_drop]; exact (hl.drop_some k).below hbb
                  have hzz : w.heap.size ≤ (w1.alloc (.cells #[] 5)).heap.size := by simp; omega
                  have HF : Hid (∀ (v : Value) (w2 : World), w2.ownsRow w.heap.size 5 1 v (n - (k + 1)) ((l.drop (k + 1)).map bv) → Below w.heap.size w w2 →
                      RetT .u64 w ((vtake l).map fun p => ((p.1 : Int), p.2)) (.returned (.tuple #[.int .u64 (X : Int), v, .int .i64 0])) w2) := by
                    show ∀ (v : Value) (w2 : World), _
                    intro v w2 hown hb
                    obtain ⟨B, c', hB, h2, h3, h4, _, h6⟩ := ret_own (w0 := w) hown hb
                    injection hB with hB
                    subst hB
                    rw [HE.out]
                    exact ⟨B, c', rfl, h2, h3, h4, ⟨_, hown⟩, h6⟩
                  by_cases hck : c = k + 1
                  · obtain rfl : n = k + 1 := by omega
                    have hd0 : (l.drop (k + 1)).map bv = [] := List.eq_nil_of_length_eq_zero (by omega)
                    have HD := Lib.hid hd0
                    clear hd0 hdl
                    go_wp2_with (at_builtin; refine wpList_join elemB rfl _ _ rfl w.heap.size _ _ _ _ _ _ [] w rfl rfl (by simp) (by simp) Lies.nil (by simp) hown0 hbb hzz (by omega) (by omega) ?_)
                    intro vv w2 hown2 hb2 _ _
                    go_wp2
                    go_ret3
                    exact HF.out vv w2 (by rw [HD.out]; simpa using hown2) hb2
                  · go_wp2_with (at_builtin; refine wpList_join elemB rfl _ _ rfl w.heap.size _ _ _ _ _ _ ((l.drop (k + 1)).map bv) w rfl rfl (by simp) hdl hlk (bv_one _) hown0 hbb hzz (by omega) (by omega) ?_)
                    intro vv w2 hown2 hb2 _ _
                    go_wp2
                    go_ret3
                    exact HF.out vv w2 (by simpa using hown2) hb2
                · have hb8 : (vput X == l.take (k + 1)) = false := by simpa using he
                  rw [hb8] at f8
                  have HE : Hid (vtake l = none) := by
                    show vtake l = none
                    refine vtake_other HS.out ?_
                    have h2 := HX.out
                    rw [List.drop_zero] at h2
                    rw [← h2]
                    exact he
                  simp only [putAll, f8, Bool.not_false, Act.put, List.setIfInBounds_toArray, List.set_cons_succ, List.set_cons_zero]
                  clear he hb8 f8
                  go_wp2
                  go_ret3
                  rw [HE.out]
                  exact ⟨rfl, hb1⟩
            · obtain ⟨m, rfl⟩ : ∃ j, m = j + 1 := ⟨m - 1, by omega⟩
              have hcut := vsum_cut l k m (by omega) (by omega)
              rw [← hX] at hcut
              obtain ⟨ad', had, _, hc'⟩ := hl.cell (k := m) (by rw [List.length_map]; omega)
              injection had with had
              subst had
              obtain ⟨b', hb'⟩ : ∃ b' : Nat, b' = (l[m]'(by omega)).toNat := ⟨_, rfl⟩
              have hcb' : w.cell? (ad.add m) = some (.int .u8 (b' : Int)) := by rw [hc', List.getElem_map, hb']; rfl
              have hb256' : b' < 256 := by rw [hb']; exact UInt8.toNat_lt _
              rw [← hb'] at hcut
              have HC := Lib.hid hcut
              clear hcut hX hc' hb' hcb
              have hmn : (m : Int) < (n : Int) := by omega
              have hmi : ((m + 1 : Nat) : Int) - 1 = (m : Int) := by omega
              rw [hmi]
              go_wp2
              go_round
              case rel =>
                refine ⟨m, rfl, by omega, ?_⟩
                have h3 := HC.out
                rw [← h3]
                congr 1
              case measure => simp [intOf]
        · have g3 : (b : Int) < 128 := by
            rcases HS.out.2.2.2 with h | h
            · omega
            · have := h (by omega); rw [← HB.out] at this; omega
          have g2 : (k : Int) < 9 := by omega
          go_wp2
          go_loop [6, 7] (RTakeRel2 l k) (fun _ i => (intOf i + 1).toNat)
          case atStart => exact ⟨k + 1, by go_num, by omega, by simp [vsum]⟩
          case round =>
            obtain ⟨m, rfl, hm, rfl⟩ := hrel
            obtain ⟨X, hX⟩ : ∃ X : Nat, X = vsum (List.drop m (List.take (k + 1) l)) % 18446744073709551616 := ⟨_, rfl⟩
            rw [← hX]
            have hXb : (X : Int) < 18446744073709551616 := by omega
            by_cases hm0 : m = 0
            · subst hm0
              have HX := Lib.hid hX
              clear hX
              have hlt : Lies w (some ad) ((l.take (k + 1)).map bv) := by rw [List.map_take]; exact hl.take _
              have htl : (l.take (k + 1)).length = k + 1 := by rw [List.length_take]; omega
              go_wp2
              refine wp_region_list [.is (.int .u64 (X : Int)), .bytes (vput X), .is (.string ⟨(vput X).toArray⟩), .is (.slice (some ad) n c), .is (.int .i64 (k : Int)), .is (.int .i64 ((k : Int) + 1)), .is (.slice (some ad) (k + 1) c),
                .is (.string ⟨(l.take (k + 1)).toArray⟩), .is (.bool !(vput X == l.take (k + 1)))] [some 43, some 44, some 45, some 46, some 47, some 48, some 49, some 50, some 51] (by kernel_rfl) (by kernel_rfl) (by kernel_rfl) rfl ⟨?_, ?_, ?_, ?_, ?_, ?_, ?_, ?_, ?_, trivial⟩ ?_
              · intro ρ w1 hb1 H
                exact gives_move rfl (H.old 6 _ (by kernel_rfl) rfl) ⟨rfl, Below.refl _ _⟩
              · intro ρ w1 hb1 H
                have e0 : ρ (.tmp 43) = .int .u64 (X : Int) := H.new 43 0 (by kernel_rfl)
                refine gives_call rfl ent11 (H.func _) (args := #[.slice none 0 0, .int .u64 (X : Int)]) (by simp [H.const, e0]) ?_
                refine (rput_any none 0 0 (X : Int) [] _ (by simp) rfl (by omega) Lies.nil (by omega) hXb).mono fun e w2 h => ?_
                exact h.isB
              · intro ρ w1 hb1 H
                obtain ⟨A1, c1, e1, h1, h2, h3, h4⟩ : IsB (vput X) (ρ (.tmp 44)) w1 := H.new 44 1 (by kernel_rfl)
                exact gives_convert rfl e1 (run_text w1 _ _ _ Tryd.underlying22 Tryd.underlying5 Tryd.underlying9 A1 _ c1 _ rfl h4) ⟨rfl, Below.refl _ _⟩
              · intro ρ w1 hb1 H
                exact gives_move rfl (H.old 0 _ (by kernel_rfl) rfl) ⟨rfl, Below.refl _ _⟩
              · intro ρ w1 hb1 H
                exact gives_move rfl (H.old 5 _ (by kernel_rfl) rfl) ⟨rfl, Below.refl _ _⟩
              · intro ρ w1 hb1 H
                exact gives_add rfl (H.new 47 4 (by kernel_rfl)) (H.const _) (by omega) (by omega) ⟨rfl, Below.refl _ _⟩
              · intro ρ w1 hb1 H
                exact gives_upto elemB rfl (H.new 46 3 (by kernel_rfl)) (h := k + 1) (H.new 48 5 (by kernel_rfl)) (by omega) ⟨rfl, Below.refl _ _⟩
              · intro ρ w1 hb1 H
                exact gives_convert rfl (H.new 49 6 (by kernel_rfl)) (run_text w1 _ _ _ Tryd.underlying22 Tryd.underlying5 Tryd.underlying9 _ _ _ _ htl (hlt.below hb1)) ⟨rfl, Below.refl _ _⟩
              · intro ρ w1 hb1 H
                exact gives_textne rfl (H.new 45 2 (by kernel_rfl)) (H.new 50 7 (by kernel_rfl)) ⟨rfl, Below.refl _ _⟩
              · intro vs w1 hb1 hfs
                have f8 : vs 8 = .bool !(vput X == l.take (k + 1)) := hfs 8 (by decide)
                clear hfs
                generalize vs 0 = v0 at *; generalize vs 1 = v1 at *; generalize vs 2 = v2 at *; generalize vs 3 = v3 at *; generalize vs 4 = v4 at *; generalize vs 5 = v5 at *; generalize vs 6 = v6 at *; generalize vs 7 = v7 at *
                by_cases he : vput X = l.take (k + 1)
                · have hb8 : (vput X == l.take (k + 1)) = true := by simpa using he
                  rw [hb8] at f8
                  have HE : Hid (vtake l = some (X, l.drop (k + 1))) := by
                    show vtake l = _
                    have h2 := HX.out
                    rw [List.drop_zero] at h2
                    have h1 := vtake_same (l := l) (n := k) (by rw [← h2]; exact he)
                    rw [h1, ← h2]
                  simp only [putAll, f8, Bool.not_true, Act.put, List.setIfInBounds_toArray, List.set_cons_succ, List.set_cons_zero]
                  clear he hb8 f8
                  have hz1 := hb1.size
                  have hbb : Below w.heap.size w (w1.alloc (.cells #[] 5)) := hb1.alloc hb1.size _
                  have hown0 : (w1.alloc (.cells #[] 5)).ownsRow w.heap.size 5 1 (.slice (some ⟨w1.heap.size, 0, none⟩) 0 0) 0 [] := World.ownsRow_made w1 #[] 0 hb1.size (by unfold maxLen; omega) (by simp)
                  have hdl : ((l.drop (k + 1)).map bv).length = n - (k + 1) := by rw [List.length_map, List.length_drop, hn]
                  have hlk : Lies (w1.alloc (.cells #[] 5)) (some ⟨ad.block, ad.off + (k + 1), none⟩) ((l.drop (k + 1)).map bv) := by rw [List.map_drop]; exact (hl.drop_some k).below hbb
                  have hzz : w.heap.size ≤ (w1.alloc (.cells #[] 5)).heap.size := by simp; omega
                  have HF : Hid (∀ (v : Value) (w2 : World), w2.ownsRow w.heap.size 5 1 v (n - (k + 1)) ((l.drop (k + 1)).map bv) → Below w.heap.size w w2 →
                      RetT .u64 w ((vtake l).map fun p => ((p.1 : Int), p.2)) (.returned (.tuple #[.int .u64 (X : Int), v, .int .i64 0])) w2) := by
                    show ∀ (v : Value) (w2 : World), _
                    intro v w2 hown hb
                    obtain ⟨B, c', hB, h2, h3, h4, _, h6⟩ := ret_own (w0 := w) hown hb
                    injection hB with hB
                    subst hB
                    rw [HE.out]
                    exact ⟨B, c', rfl, h2, h3, h4, ⟨_, hown⟩, h6⟩
                  by_cases hck : c = k + 1
                  · obtain rfl : n = k + 1 := by omega
                    have hd0 : (l.drop (k + 1)).map bv = [] := List.eq_nil_of_length_eq_zero (by omega)
                    have HD := Lib.hid hd0
                    clear hd0 hdl
                    go_wp2_with (at_builtin; refine wpList_join elemB rfl _ _ rfl w.heap.size _ _ _ _ _ _ [] w rfl rfl (by simp) (by simp) Lies.nil (by simp) hown0 hbb hzz (by omega) (by omega) ?_)
                    intro vv w2 hown2 hb2 _ _
                    go_wp2
                    go_ret3
                    exact HF.out vv w2 (by rw [HD.out]; simpa using hown2) hb2
                  · go_wp2_with (at_builtin; refine wpList_join elemB rfl _ _ rfl w.heap.size _ _ _ _ _ _ ((l.drop (k + 1)).map bv) w rfl rfl (by simp) hdl hlk (bv_one _) hown0 hbb hzz (by omega) (by omega) ?_)
                    intro vv w2 hown2 hb2 _ _
                    go_wp2
                    go_ret3
                    exact HF.out vv w2 (by simpa using hown2) hb2
                · have hb8 : (vput X == l.take (k + 1)) = false := by simpa using he
                  rw [hb8] at f8
                  have HE : Hid (vtake l = none) := by
                    show vtake l = none
                    refine vtake_other HS.out ?_
                    have h2 := HX.out
                    rw [List.drop_zero] at h2
                    rw [← h2]
                    exact he
                  simp only [putAll, f8, Bool.not_false, Act.put, List.setIfInBounds_toArray, List.set_cons_succ, List.set_cons_zero]
                  clear he hb8 f8
                  go_wp2
                  go_ret3
                  rw [HE.out]
                  exact ⟨rfl, hb1⟩
            · obtain ⟨m, rfl⟩ : ∃ j, m = j + 1 := ⟨m - 1, by omega⟩
              have hcut := vsum_cut l k m (by omega) (by omega)
              rw [← hX] at hcut
              obtain ⟨ad', had, _, hc'⟩ := hl.cell (k := m) (by rw [List.length_map]; omega)
              injection had with had
              subst had
              obtain ⟨b', hb'⟩ : ∃ b' : Nat, b' = (l[m]'(by omega)).toNat := ⟨_, rfl⟩
              have hcb' : w.cell? (ad.add m) = some (.int .u8 (b' : Int)) := by rw [hc', List.getElem_map, hb']; rfl
              have hb256' : b' < 256 := by rw [hb']; exact UInt8.toNat_lt _
              rw [← hb'] at hcut
              have HC := Lib.hid hcut
              clear hcut hX hc' hb' hcb
              have hmn : (m : Int) < (n : Int) := by omega
              have hmi : ((m + 1 : Nat) : Int) - 1 = (m : Int) := by omega
              rw [hmi]
              go_wp2
              go_round
              case rel =>
                refine ⟨m, rfl, by omega, ?_⟩
                have h3 := HC.out
                rw [← h3]
                congr 1
              case measure => simp [intOf]
      · have g1 : ¬ (k : Int) < (n : Int) := by omega
        have HE := Lib.hid (vtake_short HS.out (by omega))
        go_wp2
        go_ret3
        rw [HE.out]
        exact ⟨rfl, Below.refl _ _⟩
end Go.Proofs.YtocodcceimeiiaaDoor

/- Contracts of the numbers with a sign, or without, and of what stands at the head of all statements. -/





namespace Go.Proofs.YtocodcceimeiiaaDoor

open Go.RowKit

end Go.Proofs.YtocodcceimeiiaaDoor

/- The contracts of varint and of its reference, said of opaque values that hold bytes. -/



namespace Go.Proofs.YtocodcceimeiiaaDoor

open Go.RowKit

def TakenN (o : Option (Int × List UInt8)) : Int := match o with | none => 0 | some p => p.1
def TakenR (o : Option (Int × List UInt8)) : List UInt8 := match o with | none => [] | some p => p.2
def TakenE (o : Option (Int × List UInt8)) : Int := match o with | none => 2 | some _ => 0
theorem RetT.parts {k : IntKind} {w w' : World} {o : Option (Int × List UInt8)} {e : Ending} (h : RetT k w o e w') :
    ∃ r, e = .returned (.tuple #[.int k (TakenN o), r, .int .i64 (TakenE o)]) ∧ IsB (TakenR o) r w' ∧ Below w.heap.size w w' := by
  cases o with
  | none => exact ⟨_, h.1, isB_nil _, h.2⟩
  | some p =>
    obtain ⟨A, c, h1, h2, h3, h4, h5, h6⟩ := h
    exact ⟨_, h1, h5.isB, h6⟩
theorem take_isB {l : List UInt8} {v : Value} {w : World} (h : IsB l v w) (hl : l.length ≤ 1000000) : Calls Tryd.prog 49 #[v] w (RetT .u64 w ((vtake l).map fun p => ((p.1 : Int), p.2))) := by
  obtain ⟨A, c, rfl, h2, h3, h4, h5⟩ := h
  exact take_any A _ c l w h2 rfl h3 hl h5
theorem rtake_isB {l : List UInt8} {v : Value} {w : World} (h : IsB l v w) (hl : l.length ≤ 1000000) : Calls Tryd.prog 20 #[v] w (RetT .u64 w ((vtake l).map fun p => ((p.1 : Int), p.2))) := by
  obtain ⟨A, c, rfl, h2, h3, h4, h5⟩ := h
  exact rtake_any A _ c l w h2 rfl h3 hl h5
end Go.Proofs.YtocodcceimeiiaaDoor

/- Slices of values of one cell, of whatever kind (numbers, truths, texts): f tells a value's cell. Over any program but for the last lines. -/







namespace Go.Proofs.YtocodcceimeiiaaDoor

open Go.RowKit Go.ChangeShapes Go.WideShapes Go.ChangeAt

/-- The slice v holds l. (IsB is this at bv, IsU at uv.) -/
def IsV {α : Type} (f : α → Value) (l : List α) (v : Value) (w : World) : Prop := ∃ A c, v = .slice A l.length c ∧ (A = none → l.length = 0) ∧ l.length ≤ c ∧ c ≤ maxLen ∧ Lies w A (l.map f)
section

variable {α : Type} {f : α → Value} {l : List α} {v : Value} {w w' : World}
theorem IsV.below (h : IsV f l v w) (hb : Below w.heap.size w w') : IsV f l v w' := by
  obtain ⟨A, c, h1, h2, h3, h4, h5⟩ := h
  exact ⟨A, c, h1, h2, h3, h4, h5.below hb⟩
theorem isV_nil (f : α → Value) (w : World) : IsV f [] (.slice none 0 0) w := ⟨none, 0, rfl, by simp, by simp, by unfold maxLen; omega, Lies.nil⟩
theorem isV_row {g : Nat} {t : TypeId} {m : Nat} (h : Row w g t (l.map f)) (hl : l.length = m) (hm : m ≤ 1000000) : IsV f l (.slice (some ⟨g, 0, none⟩) m m) w := by
  subst hl
  exact ⟨_, _, rfl, by simp, Nat.le_refl _, by unfold maxLen; omega, by simpa using h.lies 0⟩
theorem isV_new (f : α → Value) (w : World) (t : TypeId) (l : List α) (m : Nat) (hl : l.length = m) (hm : m ≤ 1000000) : IsV f l (.slice (some ⟨w.heap.size, 0, none⟩) m m) (w.alloc (.cells (l.map f).toArray t)) := by
  have h : Row (w.alloc (.cells (l.map f).toArray t)) w.heap.size t (l.map f) := heap_alloc_new w _
  exact isV_row h hl hm
theorem isV_own {base : Nat} {e : TypeId} {n : Nat} (h : w.ownsRow base e 1 v n (l.map f)) : IsV f l v w := by
  obtain ⟨B, c, rfl, hnc, hcm, _, hl, hlen⟩ := own_shape h
  rw [List.length_map] at hlen
  subst hlen
  refine ⟨B, c, rfl, ?_, hnc, hcm, hl⟩
  intro hB
  subst hB
  rcases hl with hl | ⟨ad, h, _⟩
  · simpa using hl
  · cases h
theorem IsV.cell (h : IsV f l v w) {k : Nat} (hk : k < l.length) : ∃ ad c, v = .slice (some ad) l.length c ∧ ad.block < w.heap.size ∧ w.cell? (ad.add k) = some (f l[k]) := by
  obtain ⟨A, c, h1, _, _, _, h5⟩ := h
  obtain ⟨ad, rfl, h2, h3⟩ := h5.cell (k := k) (by rw [List.length_map]; exact hk)
  exact ⟨ad, c, h1, h2, by rw [h3, List.getElem_map]⟩
theorem IsV.at {A : Option Addr} {n c : Nat} (h : IsV f l (.slice A n c) w) {k : Nat} (hk : k < l.length) : ∃ ad, A = some ad ∧ ad.block < w.heap.size ∧ w.cell? (ad.add k) = some (f l[k]) := by
  obtain ⟨ad, c', h1, h2, h3⟩ := h.cell hk
  injection h1 with h1 _ _
  exact ⟨ad, h1, h2, h3⟩
theorem IsV.len {A : Option Addr} {n c : Nat} (h : IsV f l (.slice A n c) w) : n = l.length := by
  obtain ⟨A', c', h1, _⟩ := h
  injection h1
/-- The first k of it, by x[:k]. -/
theorem IsV.take {A : Option Addr} {n c : Nat} (h : IsV f l (.slice A n c) w) {k : Nat} (hk : k ≤ n) : IsV f (l.take k) (.slice A k c) w := by
  obtain ⟨A', c', h1, h2, h3, h4, h5⟩ := h
  injection h1 with e1 e2 e3
  subst e1 e2 e3
  have hl : (l.take k).length = k := by rw [List.length_take]; omega
  exact ⟨A, c, by rw [hl], fun h => by have := h2 h; omega, by rw [hl]; omega, h4, by rw [List.map_take]; exact h5.take k⟩
end
/-- What is known of a slice that is written out. -/
theorem IsV.parts {α : Type} {f : α → Value} {l : List α} {w : World} {A : Option Addr} {n c : Nat} (h : IsV f l (.slice A n c) w) : l.length = n ∧ (A = none → n = 0) ∧ n ≤ c ∧ c ≤ maxLen ∧ Lies w A (l.map f) := by
  obtain ⟨A', c', h1, h2, h3, h4, h5⟩ := h
  injection h1 with e1 e2 e3
  subst e1 e2 e3
  exact ⟨rfl, h2, h3, h4, h5⟩
theorem IsV.shape {α : Type} {f : α → Value} {l : List α} {v : Value} {w : World} (h : IsV f l v w) : ∃ A n c, v = .slice A n c := by
  obtain ⟨A', c', h1, _⟩ := h
  exact ⟨_, _, _, h1⟩
/-- A slice of bytes that came in, of an opaque value. -/
theorem open_bytesv {H : Type} {enc : TypeId × Value → H} {P : Program} {t e : TypeId} {W : World} {v : Value} {d : DataW H} {ps : List MemPlace} {base : Nat} (ht : P.underlying t = some (.slice e)) (he : P.underlying e = some (.int .u8)) (hc : P.cellsOf e = 1)
    (hval : Value.okWide P W .any base t v) (hd : DataW.Trod enc P W 0 (fun _ => true) true t v d ps) (hlt : ∀ x ∈ ps, x.block < W.heap.size) : ∃ l : List UInt8, IsB l v W := by
  obtain ⟨A, n, c, l, rfl, hA, hn, hnc, hcm, hl⟩ := open_bytes ht he hc hval hd hlt
  subst hn
  exact ⟨l, A, c, rfl, hA, hnc, hcm, hl⟩

def inInt (x : Int) : Prop := -9223372036854775808 ≤ x ∧ x ≤ 9223372036854775807
end Go.Proofs.YtocodcceimeiiaaDoor

/- Values of one cell each in a row of the call's own. Over any program. -/





namespace Go.Proofs.YtocodcceimeiiaaDoor

open Go.RowKit

def OwnV {α : Type} (f : α → Value) (e : TypeId) (w : World) (l : List α) (v : Value) (w' : World) : Prop := ∃ n, w'.ownsRow w.heap.size e 1 v n (l.map f)
section

variable {α : Type} {f : α → Value} {e : TypeId} {w w0 w1 w2 : World} {l : List α} {v : Value}
theorem OwnV.isV (h : OwnV f e w l v w1) : IsV f l v w1 := h.elim fun _ h => isV_own h
theorem OwnV.nil (f : α → Value) (e : TypeId) (w w' : World) : OwnV f e w [] (.slice none 0 0) w' := ⟨0, World.ownsRow_nil _ _ _ _⟩
theorem OwnV.below (h : OwnV f e w l v w1) (hb : Below w1.heap.size w1 w2) : OwnV f e w l v w2 := h.elim fun _ h => ⟨_, own_below h hb⟩
theorem OwnV.base (hb : w0.heap.size ≤ w.heap.size) (h : OwnV f e w l v w1) : OwnV f e w0 l v w1 := h.elim fun _ h => ⟨_, own_base hb h⟩
end

end Go.Proofs.YtocodcceimeiiaaDoor

/- x & (2^w - 1) of a number with a sign. -/



namespace Go.Proofs.YtocodcceimeiiaaDoor

end Go.Proofs.YtocodcceimeiiaaDoor

/- Operations on numbers in a region that draws: what each yields; slices of one number. Over any program. -/





namespace Go.Proofs.YtocodcceimeiiaaDoor

open Go.RowKit

section

variable {P : Program} {o : Oper} {ρ : Operand → Value} {w : World} {R : Value → World → Prop}
theorem gives_conv {s d : TypeId} {k k' : IntKind} {x : Operand} {n r : Int} (ho : o.op = .convert s d x) (hx : ρ x = .int k n) (hs : (P.underlying s).isSome = true) (hd : P.underlying d = some (.int k')) (h : k'.wrap n = r) (hR : R (.int k' r) w) : Gives P o ρ w R := by
  refine gives_convert ho hx (v := .int k' r) (w' := w) ?_ hR
  obtain ⟨e, he⟩ := Option.isSome_iff_exists.mp hs
  simp [convert, run_underlying he, run_underlying hd, Conv.intToInt, h]
end
theorem gives_extract {P : Program} {o : Oper} {ρ : Operand → Value} {w : World} {R : Value → World → Prop} {x : Operand} {i : Nat} {vs : Array Value} {v : Value} (ho : o.op = .extract x i) (hx : ρ x = .tuple vs) (hv : vs[i]? = some v) (hR : R v w) : Gives P o ρ w R := by
  refine gives_of (v := v) (w' := w) ?_ hR
  simp [execOp, ho, hx, hv, go_sem]
end Go.Proofs.YtocodcceimeiiaaDoor

/- Slices of values of several cells each (structs): f tells a value's cells, m how many. Over any program. -/



namespace Go.Proofs.YtocodcceimeiiaaDoor

open Go.RowKit

theorem flat_at {α : Type} {f : α → List Value} {m : Nat} (hf : ∀ x, (f x).length = m) : ∀ (l : List α) (k : Nat) (hk : k < l.length) (i : Nat), i < m → (l.flatMap f)[k * m + i]? = (f l[k])[i]?
  | [], _, hk, _, _ => absurd hk (Nat.not_lt_zero _)
  | x :: l, 0, _, i, hi => by
    rw [List.flatMap_cons, Nat.zero_mul, Nat.zero_add, List.getElem?_append_left (by rw [hf]; exact hi)]
    rfl
  | x :: l, k + 1, hk, i, hi => by
    rw [List.flatMap_cons, Nat.succ_mul, List.getElem?_append_right (by rw [hf]; omega), hf, show k * m + m + i - m = k * m + i by omega]
    exact flat_at hf l k (by simpa using hk) i hi
theorem flat_take {α : Type} {f : α → List Value} {m : Nat} (hf : ∀ x, (f x).length = m) : ∀ (l : List α) (k : Nat), (l.take k).flatMap f = (l.flatMap f).take (k * m)
  | [], k => by simp
  | x :: l, 0 => by simp
  | x :: l, k + 1 => by
    rw [List.take_succ_cons, List.flatMap_cons, List.flatMap_cons, flat_take hf l k, Nat.succ_mul, List.take_append, hf, show k * m + m - m = k * m by omega, List.take_of_length_le (l := f x) (by rw [hf]; omega)]
theorem flat_len {α : Type} {f : α → List Value} {m : Nat} (hf : ∀ x, (f x).length = m) : ∀ l : List α, (l.flatMap f).length = l.length * m
  | [] => by simp
  | x :: l => by rw [List.flatMap_cons, List.length_append, hf, flat_len hf l, List.length_cons, Nat.succ_mul, Nat.add_comm]
/-- The slice v holds l, each of whose values takes up the cells f. -/
def IsR {α : Type} (f : α → List Value) (l : List α) (v : Value) (w : World) : Prop := ∃ A c, v = .slice A l.length c ∧ (A = none → l.length = 0) ∧ l.length ≤ c ∧ c ≤ maxLen ∧ Lies w A (l.flatMap f)
section

variable {α : Type} {f : α → List Value} {l : List α} {v : Value} {w w' : World} {A : Option Addr} {n c m : Nat}
theorem IsR.below (h : IsR f l v w) (hb : Below w.heap.size w w') : IsR f l v w' := by
  obtain ⟨A, c, h1, h2, h3, h4, h5⟩ := h
  exact ⟨A, c, h1, h2, h3, h4, h5.below hb⟩
theorem IsR.parts (h : IsR f l (.slice A n c) w) : l.length = n ∧ (A = none → n = 0) ∧ n ≤ c ∧ c ≤ maxLen ∧ Lies w A (l.flatMap f) := by
  obtain ⟨A', c', h1, h2, h3, h4, h5⟩ := h
  injection h1 with e1 e2 e3
  subst e1 e2 e3
  exact ⟨rfl, h2, h3, h4, h5⟩
theorem IsR.shape (h : IsR f l v w) : ∃ A n c, v = .slice A n c := by
  obtain ⟨A', c', h1, _⟩ := h
  exact ⟨_, _, _, h1⟩
theorem IsR.at (h : IsR f l (.slice A n c) w) (hf : ∀ x, (f x).length = m) (hm : 0 < m) {k : Nat} (hk : k < l.length) : ∃ ad, A = some ad ∧ ad.block < w.heap.size ∧ ∀ i, i < m → w.cell? (ad.add (k * m + i)) = (f l[k])[i]? := by
  obtain ⟨_, _, _, _, h5⟩ := h.parts
  have hne : l.flatMap f ≠ [] := by
    intro h0
    have h1 := flat_at hf l k hk 0 hm
    rw [h0, List.getElem?_eq_getElem (l := f l[k]) (by rw [hf]; exact hm)] at h1
    cases h1
  rcases h5 with h5 | ⟨ad, hA, hlt, hc⟩
  · exact absurd h5 hne
  · refine ⟨ad, hA, hlt, fun i hi => ?_⟩
    have h1 := flat_at hf l k hk i hi
    rw [List.getElem?_eq_getElem (l := f l[k]) (by rw [hf]; exact hi)] at h1 ⊢
    exact hc _ _ h1
/-- The first k of it, by x[:k]. -/
theorem IsR.take (h : IsR f l (.slice A n c) w) (hf : ∀ x, (f x).length = m) {k : Nat} (hk : k ≤ n) : IsR f (l.take k) (.slice A k c) w := by
  obtain ⟨h1, h2, h3, h4, h5⟩ := h.parts
  have hl : (l.take k).length = k := by rw [List.length_take]; omega
  exact ⟨A, c, by rw [hl], fun h => by have := h2 h; omega, by rw [hl]; omega, h4, by rw [flat_take hf]; exact h5.take _⟩
end

section

variable {P : Program} {o : Oper} {ρ : Operand → Value} {w : World} {R : Value → World → Prop}
/-- x[k] of a slice whose values take up m cells each: the place. -/
theorem gives_index_wide {t e : TypeId} {m : Nat} (ht : P.underlying t = some (.slice e)) (hs : ∀ W, (sizeOf e).run P W = .ok m W) {x y : Operand} {ad : Addr} {n c k : Nat} (ho : o.op = .indexAddr t x y) (hx : ρ x = .slice (some ad) n c) (hy : ρ y = .int .i64 (k : Int)) (hk : k < n)
    (hR : R (.pointer (some (ad.add (k * m)))) w) : Gives P o ρ w R := by
  refine gives_of (v := .pointer (some (ad.add (k * m)))) (w' := w) ?_ hR
  have h0 : (0 : Int) ≤ (k : Int) := by omega
  have h1 : (k : Int) < (n : Int) := by omega
  simp [execOp, ho, hx, hy, go_sem, ht, hs, h0, h1]
/-- A load of a whole value of several cells, from wherever they lie. -/
theorem gives_load_wide {t : TypeId} {x : Operand} {ad : Addr} {cs : List Value} {d : TypeDesc} (ho : o.op = .load t x) (hx : ρ x = .pointer (some ad)) (hu : P.underlying t = some d) (hd : (match (generalizing := false) d with | .struct _ | .array _ _ => true | _ => false) = true)
    (hs : ∀ W, (sizeOf t).run P W = .ok cs.length W) (hc : ∀ j v, cs[j]? = some v → w.cell? (ad.add j) = some v) (hR : R (.agg cs.toArray) w) : Gives P o ρ w R := by
  refine gives_of (v := .agg cs.toArray) (w' := w) ?_ hR
  have ha : (isAgg t).run P w = .ok true w := by
    unfold isAgg
    rw [Sem.run_bind, run_underlying hu]
    cases d <;> first | rfl | cases hd
  have hl : (loadVar t ad).run P w = .ok (.agg cs.toArray) w := by
    simp [loadVar, ha, hs, run_loadCells_list w ad cs hc]
  simp [execOp, ho, hx, Instr.loadAt, Instr.sureAddr, hl]
/-- p.f: the place of a field, where p is known. -/
theorem gives_field {t : TypeId} {x : Operand} {ad ad' : Addr} {f : Nat} (ho : o.op = .fieldAddr t x f) (hx : ρ x = .pointer (some ad)) (hrun : ∀ W, (Instr.fieldAt t (.pointer (some ad)) f).run P W = .ok (.pointer (some ad')) W)
    (hR : R (.pointer (some ad')) w) : Gives P o ρ w R := by
  refine gives_of (v := .pointer (some ad')) (w' := w) ?_ hR
  simp [execOp, ho, hx, hrun]
end

end Go.Proofs.YtocodcceimeiiaaDoor

/- Rows of the call's own whose values take up m cells each: append. Over any program. -/





namespace Go.Proofs.YtocodcceimeiiaaDoor

open Go.RowKit

/-- The facts on an element's type that appends ask: m cells, so many bytes. -/
structure ElemW (P : Program) (t e : TypeId) (bytes m : Nat) (z : Value) : Prop where
  under : P.underlying t = some (.slice e)
  cells : z.cells.size = m
  pos : 0 < m
  info : ∃ (i : TypeInfo), P.info? e = some i ∧ i.zero = some z ∧ i.size = m ∧ i.bytes = bytes
section

variable {P : Program} (w : World)
theorem runW_append_lies (base : Nat) (t ty e : TypeId) (i : TypeInfo) (z : Value) (size bytes : Nat) (ht : P.underlying t = some (.slice e)) (hi : P.info? e = some i) (hz : i.zero = some z)
    (hsize : i.size = size) (hby : i.bytes = bytes) (hzs : z.cells.size = size) (hsz : 0 < size)
    (v : Value) (n : Nat) (xs : List Value) (hown : w.ownsRow base e size v n xs) (A : Option Addr) (m c : Nat) (hA : A = none → m = 0) (news : List Value) (hm : news.length = m * size) (hr : Lies w A news) (h1 : ∀ u ∈ news, u.oneCell' = true)
    (h63 : n + m ≤ maxLen) (hbytes : (n + m) * bytes ≤ 140737488355328) (hbase : base ≤ w.heap.size) :
    ∃ v' w', (Builtin.append_ #[t, t] ty #[v, .slice A m c]).run P w = .ok v' w' ∧ w'.ownsRow base e size v' (n + m) (xs ++ news) ∧ w.grownBy w' v.ownBlock ∧
      (v'.ownBlock = v.ownBlock ∨ v'.ownBlock = some w.heap.size) := by
  rcases A with _ | ad
  · have hm0 := hA rfl
    subst hm0
    have hn : news = [] := List.eq_nil_of_length_eq_zero (by rw [hm, Nat.zero_mul])
    subst hn
    refine ⟨v, w, ?_, by simpa using hown, World.grownBy.refl w _, .inl rfl⟩
    rcases hown.2 with ⟨rfl, rfl⟩ | ⟨g, cap, cur, rfl, _, _, hnc, _⟩
    · simp [Builtin.append_, run_underlying ht, sizeOf, typeInfo, hi, Builtin.lenOf, Builtin.firstCells]
    · simp [Builtin.append_, run_underlying ht, sizeOf, typeInfo, hi, Builtin.lenOf, Builtin.firstCells, hnc, storeCells]
  · have hcells : ∀ j u, news[j]? = some u → w.cell? (ad.add j) = some u := by
      intro j u hu
      rcases hr with hr | ⟨ad', hA, _, hc⟩
      · rw [hr] at hu; simp at hu
      · injection hA with hA; subst hA; exact hc j u hu
    obtain ⟨v', w', hrun, h2, h3, _, h5⟩ := run_append_own_at (P := P) w base t ty e i z size bytes ht hi hz hsize hby hzs hsz v n xs hown ad m c news hm hcells h1 h63 hbytes hbase
    exact ⟨v', w', hrun, h2, h3, h5⟩
theorem wpListW_append {ops : Array Oper} {rest : List Oper} {o : Oper} {a : Act} {Q : Exit → Act → World → Prop} (hgd : o.guard = none) (s x : Operand) (t : TypeId)
    (ho : o.op = .call { callee := .builtin .append, args := #[s, x], argTypes := #[t, t] })
    (base : Nat) (e : TypeId) (i : TypeInfo) (z : Value) (size bytes : Nat) (ht : P.underlying t = some (.slice e)) (hi : P.info? e = some i) (hz : i.zero = some z)
    (hsize : i.size = size) (hby : i.bytes = bytes) (hzs : z.cells.size = size) (hsz : 0 < size)
    (v : Value) (n : Nat) (xs : List Value) (hs : a.eval s = v) (hown : w.ownsRow base e size v n xs) (A : Option Addr) (m c : Nat) (hx : a.eval x = .slice A m c) (hA : A = none → m = 0)
    (news : List Value) (hm : news.length = m * size) (hr : Lies w A news) (h1 : ∀ u ∈ news, u.oneCell' = true)
    (h63 : n + m ≤ maxLen) (hbytes : (n + m) * bytes ≤ 140737488355328) (hbase : base ≤ w.heap.size)
    (h : ∀ v' w', w'.ownsRow base e size v' (n + m) (xs ++ news) → w.grownBy w' v.ownBlock → (v'.ownBlock = v.ownBlock ∨ v'.ownBlock = some w.heap.size) → wpList P ops Q rest (a.put o.dst v') w') : wpList P ops Q (o :: rest) a w := by
  refine wpList_plain hgd fun K hK => ?_
  obtain ⟨v', w', hrun, h2, h3, h4⟩ := runW_append_lies (P := P) w base t o.type e i z size bytes ht hi hz hsize hby hzs hsz v n xs hown A m c hA news hm hr h1 h63 hbytes hbase
  unfold Oper.wp execOp
  simp only [ho, resolve, invoke, builtin, Sem.run_bind, Sem.run_pure, Result.andThen_ok, List.map_toArray, List.map_cons, List.map_nil, hs, hx, hrun]
  exact hK _ _ (h v' w' h2 h3 h4)
end
theorem ownW_lt {w : World} {base size n : Nat} {e : TypeId} {v : Value} {xs : List Value} (h : w.ownsRow base e size v n xs) {g : Nat} (hg : v.ownBlock = some g) : base ≤ g ∧ g < w.heap.size := by
  rcases h.2 with ⟨rfl, _⟩ | ⟨g', cap, cur, rfl, hb, hc, _⟩
  · simp [Value.ownBlock] at hg
  · simp [Value.ownBlock] at hg
    subst hg
    exact ⟨hb, (Array.getElem?_eq_some_iff.1 hc).1⟩
theorem belowW_append {w0 w w' : World} {base size : Nat} {e : TypeId} {v : Value} {n : Nat} {xs : List Value} (hb : Below base w0 w) (hown : w.ownsRow base e size v n xs) (hz : base ≤ w.heap.size) (hg : w.grownBy w' v.ownBlock) : Below base w0 w' :=
  hb.grown hg hz fun _ hk => (ownW_lt hown hk).1
theorem ownW_alloc {w : World} {base size n : Nat} {e : TypeId} {v : Value} {xs : List Value} (h : w.ownsRow base e size v n xs) (o : Obj) : (w.alloc o).ownsRow base e size v n xs :=
  own_below h ((Below.refl _ _).alloc (Nat.le_refl _) o)
theorem ownW_base {w : World} {base base' size n : Nat} {e : TypeId} {v : Value} {xs : List Value} (hb : base' ≤ base) (h : w.ownsRow base e size v n xs) : w.ownsRow base' e size v n xs :=
  ⟨h.1, h.2.imp id fun ⟨g, cap, cur, h1, h2, h3⟩ => ⟨g, cap, cur, h1, Nat.le_trans hb h2, h3⟩⟩
theorem cells_new (w : World) (cs : List Value) (t : TypeId) : Lies (w.alloc (.cells cs.toArray t)) (some ⟨w.heap.size, 0, none⟩) cs := by
  have h : Row (w.alloc (.cells cs.toArray t)) w.heap.size t cs := heap_alloc_new w _
  simpa using h.lies 0
/-- append of one value of m cells, at a call of the walk. -/
theorem wpList_pushW {P : Program} {W : World} {ops : Array Oper} {rest : List Oper} {o : Oper} {a : Act} {Q : Exit → Act → World → Prop} {t e : TypeId} {bytes m : Nat} {z : Value} (E : ElemW P t e bytes m z)
    (hgd : o.guard = none) (s x : Operand) (ho : o.op = .call { callee := .builtin .append, args := #[s, x], argTypes := #[t, t] })
    (base : Nat) (v : Value) (n : Nat) (xs cs : List Value) (w w0 : World) (hs : a.eval s = v) (hx : a.eval x = .slice (some ⟨w.heap.size, 0, none⟩) 1 1) (hW : W = w.alloc (.cells cs.toArray e)) (hm : cs.length = m)
    (hu : ∀ u ∈ cs, u.oneCell' = true) (hown : w.ownsRow base e m v n xs) (hb : Below base w0 w) (hbase : base ≤ w.heap.size) (hn : n ≤ 1000000000) (hby : bytes ≤ 100)
    (h : ∀ v' w', w'.ownsRow base e m v' (n + 1) (xs ++ cs) → Below base w0 w' → w.grownBy w' v.ownBlock → (v'.ownBlock = v.ownBlock ∨ v'.ownBlock = some (w.heap.size + 1)) → wpList P ops Q rest (a.put o.dst v') w') : wpList P ops Q (o :: rest) a W := by
  obtain ⟨i, h1, h2, h3, h4⟩ := E.info
  subst hW
  have hle : (n + 1) * bytes ≤ (n + 1) * 100 := Nat.mul_le_mul_left _ hby
  refine wpListW_append _ hgd s x t ho base e i z m bytes E.under h1 h2 h3 h4 E.cells E.pos v n xs hs (ownW_alloc hown _) _ _ _ hx (by simp) cs (by rw [hm, Nat.one_mul]) (cells_new w cs e) hu (by unfold maxLen; omega) (by omega) (by simp; omega) ?_
  intro v' w' hown' hg hq
  refine h v' w' hown' (belowW_append (hb.alloc hbase _) (ownW_alloc hown _) (by simp; omega) hg) ⟨hg.os, hg.tape, hg.output, Nat.le_trans (by simp) hg.size, fun k hk hne => (hg.block k (by simp; omega) hne).trans (Below.heap_alloc w _ k hk)⟩ (by simpa using hq)
/-- The same, where the new block's number stands as g. -/
theorem wpList_pushG {P : Program} {W : World} {ops : Array Oper} {rest : List Oper} {o : Oper} {a : Act} {Q : Exit → Act → World → Prop} {t e : TypeId} {bytes m : Nat} {z : Value} (E : ElemW P t e bytes m z)
    (hgd : o.guard = none) (s x : Operand) (ho : o.op = .call { callee := .builtin .append, args := #[s, x], argTypes := #[t, t] })
    (base : Nat) (v : Value) (n : Nat) (xs cs : List Value) (w w0 : World) (g : Nat) (hgs : g = w.heap.size) (hs : a.eval s = v) (hx : a.eval x = .slice (some ⟨g, 0, none⟩) 1 1) (hW : W = w.alloc (.cells cs.toArray e)) (hm : cs.length = m)
    (hu : ∀ u ∈ cs, u.oneCell' = true) (hown : w.ownsRow base e m v n xs) (hb : Below base w0 w) (hbase : base ≤ w.heap.size) (hn : n ≤ 1000000000) (hby : bytes ≤ 100)
    (h : ∀ v' w', w'.ownsRow base e m v' (n + 1) (xs ++ cs) → Below base w0 w' → w.grownBy w' v.ownBlock → (v'.ownBlock = v.ownBlock ∨ v'.ownBlock = some (w.heap.size + 1)) → wpList P ops Q rest (a.put o.dst v') w') : wpList P ops Q (o :: rest) a W := by
  subst hgs
  exact wpList_pushW E hgd s x ho base v n xs cs w w0 hs hx hW hm hu hown hb hbase hn hby h
/-- append of what lies somewhere, at a call of the walk. -/
theorem wpList_joinW {P : Program} {w : World} {ops : Array Oper} {rest : List Oper} {o : Oper} {a : Act} {Q : Exit → Act → World → Prop} {t e : TypeId} {bytes size : Nat} {z : Value} (E : ElemW P t e bytes size z)
    (hgd : o.guard = none) (s x : Operand) (ho : o.op = .call { callee := .builtin .append, args := #[s, x], argTypes := #[t, t] })
    (base : Nat) (v : Value) (n : Nat) (xs : List Value) (A : Option Addr) (m c : Nat) (news : List Value) (w0 : World) (hs : a.eval s = v) (hx : a.eval x = .slice A m c)
    (hA : A = none → m = 0) (hm : news.length = m * size) (hr : Lies w A news) (h1 : ∀ u ∈ news, u.oneCell' = true)
    (hown : w.ownsRow base e size v n xs) (hb : Below base w0 w) (hbase : base ≤ w.heap.size) (hn : n + m ≤ 1000000000) (hby : bytes ≤ 100)
    (h : ∀ v' w', w'.ownsRow base e size v' (n + m) (xs ++ news) → Below base w0 w' → w.grownBy w' v.ownBlock → (v'.ownBlock = v.ownBlock ∨ v'.ownBlock = some w.heap.size) → wpList P ops Q rest (a.put o.dst v') w') : wpList P ops Q (o :: rest) a w := by
  obtain ⟨i, h2, h3, h4, h5⟩ := E.info
  have hle : (n + m) * bytes ≤ (n + m) * 100 := Nat.mul_le_mul_left _ hby
  refine wpListW_append _ hgd s x t ho base e i z size bytes E.under h2 h3 h4 h5 E.cells E.pos v n xs hs hown A m c hx hA news hm hr h1 (by unfold maxLen; omega) (by omega) hbase ?_
  intro v' w' hown' hg hq
  exact h v' w' hown' (belowW_append hb hown hbase hg) hg hq
section

variable {α : Type} {f : α → List Value} {l : List α} {v : Value} {w w' : World} {m n : Nat}
/-- What the call owns holds so many values. -/
theorem isR_own {base : Nat} {e : TypeId} (hf : ∀ x, (f x).length = m) (hm : 0 < m) (h : w.ownsRow base e m v n (l.flatMap f)) : IsR f l v w := by
  have hl : l.length = n := by
    have h1 := h.1
    rw [flat_len hf] at h1
    exact Nat.eq_of_mul_eq_mul_right hm h1
  rcases h.2 with ⟨rfl, rfl⟩ | ⟨g, cap, cur, rfl, hb, hg, hnc, hcm, hcs, ht⟩
  · obtain rfl := List.eq_nil_of_length_eq_zero hl
    exact ⟨none, 0, rfl, by simp, by simp, by unfold maxLen; omega, Lies.nil⟩
  · exact ⟨_, cap, by rw [hl], by simp, by omega, hcm, .inr ⟨_, rfl, (Array.getElem?_eq_some_iff.1 hg).1, h.cells (g := g) rfl⟩⟩
theorem isR_nil (f : α → List Value) (w : World) : IsR f [] (.slice none 0 0) w := ⟨none, 0, rfl, by simp, by simp, by unfold maxLen; omega, Lies.nil⟩
theorem ownW_made (w : World) (e : TypeId) (m : Nat) : (w.alloc (.cells #[] e)).ownsRow w.heap.size e m (.slice (some ⟨w.heap.size, 0, none⟩) 0 0) 0 [] :=
  ⟨by simp, .inr ⟨w.heap.size, 0, #[], rfl, Nat.le_refl _, heap_alloc_new w _, Nat.le_refl _, by unfold maxLen; omega, by simp, by simp⟩⟩
end
end Go.Proofs.YtocodcceimeiiaaDoor

/- Arrays by value: a block that is made, loaded and stored whole. Over any program. -/





namespace Go.Proofs.YtocodcceimeiiaaDoor

open Go.RowKit

/-- Cells that are all the same. (A name of its own: the walk's simp writes List.replicate out.) -/
def zeroRow (n : Nat) (z : Value) : List Value := List.replicate n z
/-- The facts on an array type of n elements of one cell. -/
structure ArrT (P : Program) (t e : TypeId) (n : Nat) (z : Value) : Prop where
  under : P.underlying t = some (.array n e)
  info : (P.info? t).map (fun i => (i.zero, i.size)) = some (some (.agg (zeroRow n z).toArray), n)
theorem ArrT.size_ {P : Program} {t e : TypeId} {n : Nat} {z : Value} (E : ArrT P t e n z) : (P.info? t).map (·.size) = some n := (zero_of_info E.info).2

section

variable {P : Program} {w : World} {ops : Array Oper} {rest : List Oper} {o : Oper} {a : Act} {Q : Exit → Act → World → Prop} {t e : TypeId} {n : Nat} {z : Value}
end
end Go.Proofs.YtocodcceimeiiaaDoor

/- A region that draws, each operation shown once, over ANY relation of worlds (XRegion: over 'old memory as it was'): for a region that also writes: the relation says what each operation leaves as it was; a fact may speak of the values of what its operation waits for. -/



namespace Go.Proofs.YtocodcceimeiiaaDoor

open Go.RowKit

/-- A relation of worlds that regions may go by. -/
structure Later (R : World → World → Prop) : Prop where
  refl : ∀ w, R w w
  trans : ∀ {a b c}, R a b → R b c → R a c
  draw : ∀ w, R w { w with drawn := w.drawn + 1 }
def upd (vs : Nat → Value) (i : Nat) (v : Value) : Nat → Value := fun j => if j = i then v else vs j
theorem upd_at (vs : Nat → Value) (i : Nat) (v : Value) : upd vs i v i = v := if_pos rfl
/-- What is known of what an operation sees. -/
structure RCtxR (ops : Array Oper) (F : Nat → (Nat → Value) → World → Prop) (a0 : Act) (i : Nat) (ρ : Operand → Value) (vs : Nat → Value) (w : World) : Prop where
  const : ∀ v, ρ (.const v) = v
  func : ∀ f, ρ (.func f) = .func (.func f) #[] #[]
  glob : ∀ g, ρ (.global g) = .pointer (some ⟨g, 0, none⟩)
  new : ∀ d j, writer ops i d = some j → ρ (.tmp d) = vs j
  fact : ∀ j, rpred ops j i = true → F j vs w
  old : ∀ d v, writer ops i d = none → a0.eval (.tmp d) = v → ρ (.tmp d) = v
theorem writer_pred {ops : Array Oper} {i d j : Nat} (h : writer ops i d = some j) : rpred ops j i = true := by
  have h1 := List.find?_some h
  simp at h1
  exact h1.2
section

variable {P : Program} {ops : Array Oper} {Q : Exit → Act → World → Prop} {R : World → World → Prop}
/-- **A region that draws, whose first m operations are each shown once** (the frame: as the text's order gives it); what follows them is shown from where all these have been done. -/
theorem wpAny_region_coreR (HR : Later R) {a0 : Act} {w0 : World} (m : Nat) (hm : m ≤ ops.size) (F : Nat → (Nat → Value) → World → Prop)
    (hok : regionOk ops a0.tmps.size = true)
    (hF : ∀ i vs w w', F i vs w → R w w' → F i vs w')
    (hloc : ∀ i vs vs' w, (∀ k, (k = i ∨ rpred ops k i = true) → vs k = vs' k) → F i vs w → F i vs' w)
    (hstep : ∀ i o, i < m → ops[i]? = some o → ∀ (vs : Nat → Value) (w : World), R w0 w → (∀ j, rpred ops j i = true → F j vs w) →
      if Region.wanted o (yielded ops (puts ops (fun _ => true) vs i a0).tmps) = true then
        o.wp P (puts ops (fun _ => true) vs i a0) w (fun a' w' => ∃ v, a' = (puts ops (fun _ => true) vs i a0).put o.dst v ∧ F i (upd vs i v) w' ∧ R w w') (fun _ _ _ => False)
      else F i (upd vs i undef) w)
    (hwait : ∀ l : Array Bool, HeadInv .any ops m l → (∃ i, i < m ∧ l.getD i true = false) → ∀ t, m ≤ t → t ∉ Region.ready .any ops l)
    (hfin : ∀ (l : Array Bool) (vs : Nat → Value) (w : World), l.size = ops.size → (∀ j, j < m → l.getD j false = true) → (∀ j, m ≤ j → j < ops.size → l.getD j false = false) → R w0 w → (∀ i, i < m → F i vs w) →
      wpAny P .any ops Q (ops.size - m) l (puts ops (fun _ => true) vs m a0) w) :
    wpAny P .any ops Q ops.size (Array.replicate ops.size false) a0 { w0 with drawn := w0.drawn + 1 } := by
  have main : ∀ (fuel : Nat) (l : Array Bool) (vs : Nat → Value) (w : World), l.size = ops.size → left m l ≤ fuel → (∀ i j, i < ops.size → l.getD i false = true → rpred ops j i = true → l.getD j false = true) →
      (∀ t, m ≤ t → t < ops.size → l.getD t false = false) →
      (∀ i, i < ops.size → l.getD i false = true → F i vs w) → R w0 w → wpAny P .any ops Q (fuel + (ops.size - m)) l (puts ops (fun j => l.getD j false) vs ops.size a0) w := by
    intro fuel
    have hend : ∀ (f : Nat) (l : Array Bool) (vs : Nat → Value) (w : World), l.size = ops.size → (∀ t, m ≤ t → t < ops.size → l.getD t false = false) → (∀ i, i < ops.size → l.getD i false = true → F i vs w) → R w0 w → (∀ j, j < m → l.getD j false = true) →
        wpAny P .any ops Q (f + (ops.size - m)) l (puts ops (fun j => l.getD j false) vs ops.size a0) w := by
      intro f l vs w hs htl hfs hb hall
      rw [puts_cut _ vs a0 m ops.size hm htl, puts_congr (fun j => l.getD j false) (fun _ => true) vs vs a0 m hall (fun _ _ _ => rfl)]
      exact wpAny_add _ _ _ _ _ (hfin l vs w hs hall htl hb fun i hi => hfs i (by omega) (hall i hi))
    induction fuel with
    | zero =>
      intro l vs w hs hl hcl htl hfs hb
      refine hend 0 l vs w hs htl hfs hb fun j hj => ?_
      cases h1 : l.getD j false with
      | true => rfl
      | false => have := left_set_in hj (by omega) h1; omega
    | succ fuel ih =>
      intro l vs w hs hl hcl htl hfs hb
      by_cases hall : ∀ j, j < m → l.getD j false = true
      · exact hend _ l vs w hs htl hfs hb hall
      obtain ⟨j0, hj0⟩ := Classical.not_forall.1 hall
      have hj0m : j0 < m := by
        rcases Nat.lt_or_ge j0 m with h | h
        · exact h
        · exact absurd (fun h' => absurd h' (by omega)) hj0
      have hj0f : l.getD j0 false = false := by
        cases h1 : l.getD j0 false with
        | false => rfl
        | true => exact absurd (fun _ => h1) hj0
      have hinv : HeadInv .any ops m l := by
        refine ⟨hs, fun j oj hj hlj e he hbd => ?_, fun t ht ht' => getD_in (by omega) (htl t ht ht')⟩
        refine hcl j e.on (Array.getElem?_eq_some_iff.1 hj).1 hlj ?_
        unfold rpred
        rw [hj, Option.map_some, Option.getD_some, List.any_eq_true]
        exact ⟨e, by simpa using he, by rw [hbd]; simp⟩
      have hwt := hwait l hinv ⟨j0, hj0m, getD_in (by omega) hj0f⟩
      rw [show fuel + 1 + (ops.size - m) = (fuel + (ops.size - m)) + 1 by omega]
      refine ⟨fun hr => ?_, fun i hi => ?_⟩
      · exfalso
        have hallb : ∀ i, i < m → l.getD i false = true := by
          intro i
          induction i using Nat.strongRecOn with
          | ind i ih =>
            intro hi
            by_cases hl : l.getD i false = true
            · exact hl
            · exfalso
              have ho : ops[i]? = some ops[i] := Array.getElem?_eq_getElem (by omega)
              have hok' := regionOk_at hok ho
              have hmem : i ∈ Region.ready .any ops l := mem_ready.2 ⟨by
                have : i < l.size := by omega
                simp [this] at hl ⊢
                exact hl, ops[i], ho, fun e he hbd => ih e.on (hok'.1 e he hbd) (by have := hok'.1 e he hbd; omega)⟩
              rw [hr] at hmem
              cases hmem
        exact absurd (hallb j0 hj0m) (by rw [hj0f]; decide)
      have him : i < m := by
        rcases Nat.lt_or_ge i m with h | h
        · exact h
        · exact absurd hi (hwt i h)
      obtain ⟨h0, o, ho, hpre⟩ := mem_ready.1 hi
      have hlt : i < ops.size := (Array.getElem?_eq_some_iff.1 ho).1
      have h1 : l.getD i false = false := by
        have : i < l.size := by omega
        simp [this] at h0 ⊢
        exact h0
      obtain ⟨hback, hsel, hdst, hlook⟩ := regionOk_at hok ho
      have hpred : ∀ j, rpred ops j i = true → l.getD j false = true ∧ j < i := by
        intro j hj
        unfold rpred at hj
        rw [ho, Option.map_some, Option.getD_some, List.any_eq_true] at hj
        obtain ⟨e, he, hej⟩ := hj
        have he : e ∈ o.after := by simpa using he
        simp at hej
        rw [← hej.2]
        exact ⟨hpre e he hej.1, hback e he hej.1⟩
      have hrd : rdst ops i = o.dst := by unfold rdst; rw [ho]; rfl
      -- what the operation looks at is the same in both frames
      have hsame : ∀ d ∈ o.looksAt ops, (puts ops (fun j => l.getD j false) vs ops.size a0).tmps[d]? = (puts ops (fun _ => true) vs i a0).tmps[d]? := by
        intro d hd
        by_cases hex : ∃ j, j < ops.size ∧ j ≠ i ∧ rdst ops j = some d
        · obtain ⟨j, hj, hne, hjd⟩ := hex
          have hoj : ops[j]? = some ops[j] := Array.getElem?_eq_getElem hj
          have hdj : ops[j].dst = some d := by unfold rdst at hjd; rw [hoj] at hjd; exact hjd
          have huniq : ∀ k, k < ops.size → k ≠ j → rdst ops k ≠ some d := fun k hk hkj => ((regionOk_at hok hoj).2.2.1 d hdj).2 k hk hkj
          rcases hlook d hd j hj hne hjd with hp | hp
          · obtain ⟨hlj, hji⟩ := hpred j hp
            rw [puts_new _ vs a0 d j hjd hlj ops.size hj huniq, puts_new _ vs a0 d j hjd rfl i hji fun k hk => huniq k (by omega)]
          · have hnl : l.getD j false = false := by
              cases hlj : l.getD j false with
              | false => rfl
              | true => exact absurd (hcl j i hj hlj hp) (by rw [h1]; decide)
            have hij : i < j := by
              unfold rpred at hp
              rw [hoj, Option.map_some, Option.getD_some, List.any_eq_true] at hp
              obtain ⟨e, he, hej⟩ := hp
              have he : e ∈ ops[j].after := by simpa using he
              simp at hej
              have := (regionOk_at hok hoj).1 e he hej.1
              omega
            rw [puts_old _ vs a0 d ops.size, puts_old _ vs a0 d i]
            · intro k hk _ hkd
              exact huniq k (by omega) (by omega) hkd
            · intro k hk hlk hkd
              by_cases hkj : k = j
              · subst hkj; rw [hnl] at hlk; cases hlk
              · exact huniq k hk hkj hkd
        · rw [puts_old _ vs a0 d ops.size, puts_old _ vs a0 d i]
          · intro k hk _ hkd; exact hex ⟨k, by omega, by omega, hkd⟩
          · intro k hk hlk hkd
            by_cases hki : k = i
            · subst hki; rw [h1] at hlk; cases hlk
            · exact hex ⟨k, hk, hki, hkd⟩
      have hst := hstep i o him ho vs w hb fun j hj => hfs j (by have := (hpred j hj).2; omega) (hpred j hj).1
      have hwant := wanted_congr hsame
      have hexec : execOp (puts ops (fun j => l.getD j false) vs ops.size a0).eval o = execOp (puts ops (fun _ => true) vs i a0).eval o := by
        refine execOp_congr o hsel fun x hx => ?_
        cases x with
        | tmp d =>
          have hd : d ∈ o.looksAt ops := List.mem_append_left _ (List.mem_filterMap.2 ⟨.tmp d, by simpa using hx, rfl⟩)
          have := hsame d hd
          show (puts ops (fun j => l.getD j false) vs ops.size a0).tmps.getD d undef = (puts ops (fun _ => true) vs i a0).tmps.getD d undef
          rw [Array.getD_eq_getD_getElem?, Array.getD_eq_getD_getElem?, this]
        | _ => rfl
      -- behind it
      have hnext : ∀ v w', F i (upd vs i v) w' → R w w' → wpAny P .any ops Q (fuel + (ops.size - m)) (l.setIfInBounds i true) ((puts ops (fun j => l.getD j false) vs ops.size a0).put o.dst v) w' := by
        intro v w' hv hb'
        have hset := puts_set (ops := ops) (fun j => l.getD j false) vs a0 i v h1 ops.size hlt fun j hj hne d hd => (hdst d (by rw [← hrd]; exact hd)).2 j hj hne
        rw [← hrd, ← hset]
        have hmarks : ∀ j, j < ops.size → (j == i || l.getD j false) = (l.setIfInBounds i true).getD j false := by
          intro j hj
          by_cases hij : i = j
          · subst hij; simp [hs, hlt]
          · rw [getD_set_ne false hij]
            have : (j == i) = false := by simp; omega
            simp [this]
        rw [puts_congr _ (fun j => (l.setIfInBounds i true).getD j false) _ (fun j => if j = i then v else vs j) a0 ops.size hmarks (fun _ _ _ => rfl)]
        refine ih (l.setIfInBounds i true) _ w' (by simp [hs]) (by have := left_set_in him (by omega) h1; omega) ?_ ?_ ?_ (HR.trans hb hb')
        · intro j k hj hlj hjk
          rw [← hmarks j hj] at hlj
          by_cases hji : j = i
          · subst hji; exact getD_set_true (hpred k hjk).1
          · have : (j == i) = false := by simpa using hji
            rw [this, Bool.false_or] at hlj
            exact getD_set_true (hcl j k hj hlj hjk)
        · intro t ht ht'
          rw [getD_set_ne false (by omega)]
          exact htl t ht ht'
        · intro j hj hlj
          rw [← hmarks j hj] at hlj
          by_cases hji : j = i
          · subst hji; exact hv
          · have : (j == i) = false := by simpa using hji
            rw [this, Bool.false_or] at hlj
            refine hF j _ w w' (hloc j vs _ w (fun k hk => ?_) (hfs j hj hlj)) hb'
            have hki : k ≠ i := by
              rcases hk with rfl | hk
              · exact hji
              · rintro rfl
                rw [hcl j k hj hlj hk] at h1
                cases h1
            show vs k = if k = i then v else vs k
            rw [if_neg hki]
      unfold wpOp
      rw [ho]
      show if Region.wanted o _ = true then _ else _
      rw [hwant]
      by_cases hw : Region.wanted o (yielded ops (puts ops (fun _ => true) vs i a0).tmps) = true
      · rw [if_pos hw] at hst ⊢
        exact .inl (wp_carry hexec (fun d hd => by rw [puts_size]; exact (hdst d hd).1) hst fun v w' h => hnext v w' h.1 h.2)
      · rw [if_neg hw] at hst ⊢
        exact hnext undef w hst (HR.refl _)
  have hinit := main m (Array.replicate ops.size false) (fun _ => undef) { w0 with drawn := w0.drawn + 1 } (by simp) (by unfold left; exact Nat.le_trans (List.length_filter_le _ _) (by simp))
    (fun i j hi h _ => by simp [hi] at h) (fun t _ _ => getD_replicate_false _ _) (fun i hi h => by simp [hi] at h) (HR.draw _)
  have hz : puts ops (fun j => (Array.replicate ops.size false).getD j false) (fun _ => undef) ops.size a0 = a0 := by
    have : ∀ n, n ≤ ops.size → puts ops (fun j => (Array.replicate ops.size false).getD j false) (fun _ => undef) n a0 = a0 := by
      intro n
      induction n with
      | zero => intro _; rfl
      | succ n ih =>
        intro hn
        have hlt : n < ops.size := by omega
        rw [puts, if_neg (by simp [hlt]), ih (by omega)]
    exact this _ (Nat.le_refl _)
  rw [hz, show m + (ops.size - m) = ops.size by omega] at hinit
  exact hinit

/-- **A region that draws**: each operation is shown once, in the frame that the text's order gives it, knowing of what it waits for; behind the region all facts hold. -/
theorem wpAny_region_factsR (HR : Later R) {a0 : Act} {w0 : World} (F : Nat → (Nat → Value) → World → Prop)
    (hok : regionOk ops a0.tmps.size = true)
    (hF : ∀ i vs w w', F i vs w → R w w' → F i vs w')
    (hloc : ∀ i vs vs' w, (∀ k, (k = i ∨ rpred ops k i = true) → vs k = vs' k) → F i vs w → F i vs' w)
    (hstep : ∀ i o, ops[i]? = some o → ∀ (vs : Nat → Value) (w : World), R w0 w → (∀ j, rpred ops j i = true → F j vs w) →
      if Region.wanted o (yielded ops (puts ops (fun _ => true) vs i a0).tmps) = true then
        o.wp P (puts ops (fun _ => true) vs i a0) w (fun a' w' => ∃ v, a' = (puts ops (fun _ => true) vs i a0).put o.dst v ∧ F i (upd vs i v) w' ∧ R w w') (fun _ _ _ => False)
      else F i (upd vs i undef) w)
    (hfin : ∀ (vs : Nat → Value) (w : World), R w0 w → (∀ i, i < ops.size → F i vs w) → Q .normal (puts ops (fun _ => true) vs ops.size a0) w) :
    wpAny P .any ops Q ops.size (Array.replicate ops.size false) a0 { w0 with drawn := w0.drawn + 1 } := by
  refine wpAny_region_coreR HR ops.size (Nat.le_refl _) F hok hF hloc (fun i o _ => hstep i o) (fun l _ _ t ht hr => ?_) fun l vs w hs hall _ hb hf => ?_
  · obtain ⟨_, o, ho, _⟩ := mem_ready.1 hr
    have := (Array.getElem?_eq_some_iff.1 ho).1
    omega
  · rw [Nat.sub_self]
    refine ⟨List.eq_nil_iff_forall_not_mem.2 fun i hi => ?_, hfin vs w hb hf⟩
    obtain ⟨h0, o, ho, _⟩ := mem_ready.1 hi
    have hlt := (Array.getElem?_eq_some_iff.1 ho).1
    have h1 := hall i hlt
    have : i < l.size := by omega
    simp [this] at h0 h1
    rw [h0] at h1
    cases h1
def StepAtR (R : World → World → Prop) (P : Program) (ops : Array Oper) (F : Nat → (Nat → Value) → World → Prop) (a0 : Act) (w0 : World) (i : Nat) (o : Oper) : Prop :=
  ∀ (ρ : Operand → Value) (vs : Nat → Value) (w : World), R w0 w → RCtxR ops F a0 i ρ vs w →
    match o.guard with
    | none => Gives P o ρ w fun v w' => F i (upd vs i v) w' ∧ R w w'
    | some (g, b) => ∀ d, rdst ops g = some d → (ρ (.tmp d) = .bool b → Gives P o ρ w fun v w' => F i (upd vs i v) w' ∧ R w w') ∧ (ρ (.tmp d) ≠ .bool b → F i (upd vs i undef) w)

def StepsFromR (R : World → World → Prop) (P : Program) (ops : Array Oper) (F : Nat → (Nat → Value) → World → Prop) (a0 : Act) (w0 : World) : Nat → List Oper → Prop
  | _, [] => True
  | i, o :: r => StepAtR R P ops F a0 w0 i o ∧ StepsFromR R P ops F a0 w0 (i + 1) r

theorem stepsFrom_atR {F : Nat → (Nat → Value) → World → Prop} {a0 : Act} {w0 : World} : ∀ (l : List Oper) (k : Nat), StepsFromR R P ops F a0 w0 k l → ∀ i o, l[i]? = some o → StepAtR R P ops F a0 w0 (k + i) o := by
  intro l
  induction l with
  | nil => intro k _ i o h; simp at h
  | cons x l ih =>
    intro k hs i o h
    cases i with
    | zero => simp at h; subst h; exact hs.1
    | succ i =>
      have := ih (k + 1) hs.2 i o (by simpa using h)
      rwa [Nat.add_assoc, Nat.add_comm 1] at this

/-- **A region that draws**, in the form in which it is used: a fact for each operation, a step for each. -/
theorem region_stepR {a0 : Act} {w0 : World} (F : Nat → (Nat → Value) → World → Prop)
    (hok : regionOk ops a0.tmps.size = true) (hgd : guardsOk ops = true)
    (i : Nat) (o : Oper) (ho : ops[i]? = some o) (hst : StepAtR R P ops F a0 w0 i o) (vs : Nat → Value) (w : World) (hb : R w0 w) (hp : ∀ j, rpred ops j i = true → F j vs w) :
      if Region.wanted o (yielded ops (puts ops (fun _ => true) vs i a0).tmps) = true then
        o.wp P (puts ops (fun _ => true) vs i a0) w (fun a' w' => ∃ v, a' = (puts ops (fun _ => true) vs i a0).put o.dst v ∧ F i (upd vs i v) w' ∧ R w w') (fun _ _ _ => False)
      else F i (upd vs i undef) w := by
  have hlt : i < ops.size := (Array.getElem?_eq_some_iff.1 ho).1
  obtain ⟨hback, hsel, hdst, hlook⟩ := regionOk_at hok ho
  have hpi : ∀ j, rpred ops j i = true → j < i := by
    intro j hj
    unfold rpred at hj
    rw [ho, Option.map_some, Option.getD_some, List.any_eq_true] at hj
    obtain ⟨e, he, hej⟩ := hj
    simp at hej
    rw [← hej.2]
    exact hback e (by simpa using he) hej.1
  have hw : ∀ d j, writer ops i d = some j → rdst ops j = some d ∧ rpred ops j i = true ∧ j < ops.size := by
    intro d j h
    have h1 := List.find?_some h
    have h2 := List.mem_of_find?_eq_some h
    simp at h1
    exact ⟨h1.1, h1.2, List.mem_range.1 h2⟩
  have hctx : RCtxR ops F a0 i (sees ops vs a0 i) vs w := by
    refine ⟨fun _ => rfl, fun _ => rfl, fun _ => rfl, fun d j h => ?_, hp, fun d v h hv => ?_⟩
    · show (match writer ops i d with | some j => vs j | none => a0.eval (.tmp d)) = vs j
      rw [h]
    · show (match writer ops i d with | some j => vs j | none => a0.eval (.tmp d)) = v
      rw [h]
      exact hv
  -- what it looks at is what it sees
  have hsee : ∀ d ∈ o.looksAt ops, (puts ops (fun _ => true) vs i a0).tmps.getD d undef = sees ops vs a0 i (.tmp d) := by
    intro d hd
    show _ = (match writer ops i d with | some j => vs j | none => a0.eval (.tmp d))
    cases hwr : writer ops i d with
    | some j =>
      obtain ⟨h1, h2, h3⟩ := hw d j hwr
      have hoj : ops[j]? = some ops[j] := Array.getElem?_eq_getElem h3
      have hdj : ops[j].dst = some d := by unfold rdst at h1; rw [hoj] at h1; exact h1
      have hu := (regionOk_at hok hoj).2.2.1 d hdj
      have hpn := puts_new (ops := ops) (fun _ => true) vs a0 d j h1 rfl i (hpi j h2) fun k hk => hu.2 k (by omega)
      rw [Array.getD_eq_getD_getElem?, hpn]
      simp [Act.put, hu.1]
    | none =>
      have hno : ∀ j, j < i → rdst ops j ≠ some d := by
        intro j hj hjd
        have h1 := hlook d hd j (by omega) (by omega) hjd
        rcases h1 with h1 | h1
        · have h2 := List.find?_eq_none.1 hwr j (List.mem_range.2 (by omega))
          simp [hjd, h1] at h2
        · have hoj : ops[j]? = some ops[j] := Array.getElem?_eq_getElem (by omega)
          unfold rpred at h1
          rw [hoj, Option.map_some, Option.getD_some, List.any_eq_true] at h1
          obtain ⟨e, he, hej⟩ := h1
          simp at hej
          have := (regionOk_at hok hoj).1 e (by simpa using he) hej.1
          omega
      show _ = a0.tmps.getD d undef
      rw [Array.getD_eq_getD_getElem?, Array.getD_eq_getD_getElem?, puts_old (ops := ops) (fun _ => true) vs a0 d i fun j hj _ => hno j hj]
  have hexec : execOp (puts ops (fun _ => true) vs i a0).eval o = execOp (sees ops vs a0 i) o := by
    refine execOp_congr o hsel fun x hx => ?_
    cases x with
    | tmp d => exact hsee d (List.mem_append_left _ (List.mem_filterMap.2 ⟨.tmp d, by simpa using hx, rfl⟩))
    | _ => rfl
  have h1 := hst (sees ops vs a0 i) vs w hb hctx
  cases hg : o.guard with
  | none =>
    rw [hg] at h1
    have hwa : Region.wanted o (yielded ops (puts ops (fun _ => true) vs i a0).tmps) = true := by unfold Region.wanted; rw [hg]
    rw [if_pos hwa]
    exact wp_of_gives hexec h1
  | some p =>
    obtain ⟨g, b⟩ := p
    rw [hg] at h1
    have hgo : (rdst ops g).isSome = true := by
      unfold guardsOk at hgd
      rw [List.all_eq_true] at hgd
      have := hgd i (List.mem_range.2 hlt)
      rw [ho, Option.map_some, Option.getD_some, hg] at this
      exact this
    obtain ⟨d, hd⟩ := Option.isSome_iff_exists.1 hgo
    obtain ⟨hyes, hno⟩ := h1 d hd
    have hdl : d ∈ o.looksAt ops := List.mem_append_right _ (by rw [hg]; show d ∈ ((ops[g]?).bind (·.dst)).toList; have : (ops[g]?).bind (·.dst) = some d := hd; rw [this]; simp)
    have hv := hsee d hdl
    by_cases hw : Region.wanted o (yielded ops (puts ops (fun _ => true) vs i a0).tmps) = true
    · rw [if_pos hw]
      refine wp_of_gives hexec (hyes ?_)
      rw [← hv]
      unfold Region.wanted at hw
      rw [hg] at hw
      have hd' : (ops[g]?).bind (·.dst) = some d := hd
      simp only [yielded, hd', Option.bind_some] at hw
      rw [Array.getD_eq_getD_getElem?]
      cases hx : (puts ops (fun _ => true) vs i a0).tmps[d]? with
      | none => rw [hx] at hw; simp at hw
      | some v =>
        rw [hx] at hw
        cases v <;> simp at hw
        subst hw
        rfl
    · rw [if_neg hw]
      refine hno fun h => hw ?_
      rw [← hv, Array.getD_eq_getD_getElem?] at h
      unfold Region.wanted
      rw [hg]
      have hd' : (ops[g]?).bind (·.dst) = some d := hd
      simp only [yielded, hd', Option.bind_some]
      cases hx : (puts ops (fun _ => true) vs i a0).tmps[d]? with
      | none => rw [hx] at h; cases h
      | some v =>
        rw [hx] at h
        have h : v = .bool b := h
        subst h
        simp
theorem stepsFrom_allR {F : Nat → (Nat → Value) → World → Prop} {a0 : Act} {w0 : World} (h : StepsFromR R P ops F a0 w0 0 ops.toList) (i : Nat) (o : Oper) (ho : ops[i]? = some o) : StepAtR R P ops F a0 w0 i o := by
  have := stepsFrom_atR ops.toList 0 h i o (by simpa using ho)
  simpa using this
theorem wpAny_region_stepsR (HR : Later R) {a0 : Act} {w0 : World} (F : Nat → (Nat → Value) → World → Prop)
    (hok : regionOk ops a0.tmps.size = true) (hgd : guardsOk ops = true)
    (hF : ∀ i vs w w', F i vs w → R w w' → F i vs w')
    (hloc : ∀ i vs vs' w, (∀ k, (k = i ∨ rpred ops k i = true) → vs k = vs' k) → F i vs w → F i vs' w)
    (hsteps : StepsFromR R P ops F a0 w0 0 ops.toList)
    (hfin : ∀ (vs : Nat → Value) (w : World), R w0 w → (∀ i, i < ops.size → F i vs w) → Q .normal (puts ops (fun _ => true) vs ops.size a0) w) :
    wpAny P .any ops Q ops.size (Array.replicate ops.size false) a0 { w0 with drawn := w0.drawn + 1 } :=
  wpAny_region_factsR HR F hok hF hloc (fun i o ho => region_stepR F hok hgd i o ho (stepsFrom_allR hsteps i o ho)) hfin
end
/-- What is known of a value, and stays known; 'deps': the operations whose values it speaks of besides. -/
structure FactR (R : World → World → Prop) where
  holds : (Nat → Value) → Value → World → Prop
  deps : List Nat
  stays : ∀ vs v w w', holds vs v w → R w w' → holds vs v w'
  local_ : ∀ vs vs' v w, (∀ k ∈ deps, vs k = vs' k) → holds vs v w → holds vs' v w
def FactR.any {R : World → World → Prop} : FactR R := ⟨fun _ _ _ => True, [], fun _ _ _ _ _ _ => trivial, fun _ _ _ _ _ _ => trivial⟩
def FactR.is {R : World → World → Prop} (u : Value) : FactR R := ⟨fun _ v _ => v = u, [], fun _ _ _ _ h _ => h, fun _ _ _ _ _ h => h⟩
/-- Of the value alone, and the world. -/
def FactR.of {R : World → World → Prop} (H : Value → World → Prop) (h : ∀ v w w', H v w → R w w' → H v w') : FactR R := ⟨fun _ v w => H v w, [], fun _ v w w' a b => h v w w' a b, fun _ _ _ _ _ h => h⟩
def factsR {R : World → World → Prop} (L : List (FactR R)) (i : Nat) (vs : Nat → Value) (w : World) : Prop := (L.getD i FactR.any).holds vs (vs i) w
/-- Each fact speaks of what its operation waits for alone. -/
def depsOk {R : World → World → Prop} (ops : Array Oper) (L : List (FactR R)) : Bool := (List.range L.length).all fun i => (L.getD i FactR.any).deps.all fun k => rpred ops k i
theorem factsR_local {R : World → World → Prop} {ops : Array Oper} {L : List (FactR R)} (h : depsOk ops L = true) (i : Nat) (vs vs' : Nat → Value) (w : World) (hk : ∀ k, (k = i ∨ rpred ops k i = true) → vs k = vs' k) (hf : factsR L i vs w) : factsR L i vs' w := by
  unfold factsR at *
  rw [← hk i (.inl rfl)]
  refine (L.getD i FactR.any).local_ vs vs' _ w (fun k hd => hk k (.inr ?_)) hf
  by_cases hi : i < L.length
  · unfold depsOk at h
    exact List.all_eq_true.1 (List.all_eq_true.1 h i (List.mem_range.2 hi)) k hd
  · rw [List.getD_eq_getElem?_getD, List.getElem?_eq_none (by omega)] at hd
    cases hd
theorem RCtxR.holds {R : World → World → Prop} {ops : Array Oper} {L : List (FactR R)} {a0 : Act} {i : Nat} {ρ : Operand → Value} {vs : Nat → Value} {w : World} (H : RCtxR ops (factsR L) a0 i ρ vs w) (d j : Nat) (h : writer ops i d = some j) : (L.getD j FactR.any).holds vs (ρ (.tmp d)) w := by
  rw [H.new d j h]
  exact H.fact j (writer_pred h)
theorem wpAny_region_listR {R : World → World → Prop} (HR : Later R) {P : Program} {ops : Array Oper} {Q : Exit → Act → World → Prop} {a0 : Act} {w0 : World} (L : List (FactR R)) (ds : List (Option Tmp))
    (hok : regionOk ops a0.tmps.size = true) (hgd : guardsOk ops = true) (hdp : depsOk ops L = true) (hds : ops.toList.map (·.dst) = ds) (hsteps : StepsFromR R P ops (factsR L) a0 w0 0 ops.toList)
    (hfin : ∀ (vs : Nat → Value) (w : World), R w0 w → (∀ i, i < ds.length → factsR L i vs w) → Q .normal (putAll vs ds 0 a0) w) :
    wpAny P .any ops Q ops.size (Array.replicate ops.size false) a0 { w0 with drawn := w0.drawn + 1 } :=
  wpAny_region_stepsR HR (factsR L) hok hgd (fun i vs w w' h hb => (L.getD i FactR.any).stays vs _ w w' h hb) (factsR_local hdp) hsteps (fun vs w hb h => by
    subst hds
    rw [puts_all]
    exact hfin vs w hb fun i hi => h i (by simpa using hi))
/-- The use: the relation, a fact for each operation. -/
theorem wp_region_listR {R : World → World → Prop} (HR : Later R) {P : Program} {ops : Array Oper} {Q : Exit → Act → World → Prop} {id : Nat} {a0 : Act} {w0 : World} (L : List (FactR R)) (ds : List (Option Tmp)) (hm : P.follows .mixedOrders = true)
    (hok : regionOk ops a0.tmps.size = true) (hgd : guardsOk ops = true) (hdp : depsOk ops L = true) (hds : ops.toList.map (·.dst) = ds) (hsteps : StepsFromR R P ops (factsR L) a0 w0 0 ops.toList)
    (hfin : ∀ (vs : Nat → Value) (w : World), R w0 w → (∀ i, i < ds.length → factsR L i vs w) → Q .normal (putAll vs ds 0 a0) w) :
    (Code.region id ops true).wp P Q a0 w0 := wp_region_any hm (wpAny_region_listR HR L ds hok hgd hdp hds hsteps hfin)
end Go.Proofs.YtocodcceimeiiaaDoor

/- Rows of structs made whole (make), copied (copy), stored into at an index; a struct's block laid and stored in a region that draws. Over any program. -/











namespace Go.Proofs.YtocodcceimeiiaaDoor

open Go.RowKit

/-- A struct stored into a row. -/
theorem wpList_storeW {P : Program} {w : World} {ops : Array Oper} {rest : List Oper} {o : Oper} {a : Act} {Q : Exit → Act → World → Prop} (hgd : o.guard = none) (t : TypeId) (x y : Operand) (ho : o.op = .store t x y)
    (g off : Nat) (t' : TypeId) (cur cs new : List Value) (hnew : cur.take off ++ cs ++ cur.drop (off + cs.length) = new) (hx : a.eval x = .pointer (some ⟨g, off, none⟩)) (hy : a.eval y = .agg cs.toArray) (hr : Row w g t' cur) (hi : (P.info? t).map (·.size) = some cs.length)
    (hfit : off + cs.length ≤ cur.length) (h1 : ∀ u ∈ cs, u.oneCell' = true) (w0 : World) (B : Nat) (hb : Below B w0 w) (hB : B ≤ g)
    (h : ∀ w', Row w' g t' new → Below B w0 w' → (∀ k ty l, k ≠ g → Row w k ty l → Row w' k ty l) → wpList P ops Q rest (a.put o.dst undef) w') : wpList P ops Q (o :: rest) a w := by
  subst hnew
  have hst := run_storeCells_at P g off t' cs 0 cur.toArray w hr (by simpa using hfit) h1
  have hrun : (storeVar t ⟨g, off, none⟩ (.agg cs.toArray)).run P w = .ok () (w.setRow g (cur.take off ++ cs ++ cur.drop (off + cs.length)).toArray) := by
    cases hq : P.info? t with
    | none => simp [hq] at hi
    | some i =>
      have hs : cs.length = i.size := by simp [hq] at hi; omega
      have hst2 : (storeCells ⟨g, off, none⟩ cs).run P w = .ok () (w.setRow g (cur.take off ++ cs ++ cur.drop (off + cs.length)).toArray) := by simpa using hst
      simp [storeVar, sizeOf, typeInfo, hq, Value.cells, hs]
      rw [← hs]
      simpa using hst2
  refine wpList_plain hgd fun K hK => ?_
  unfold Oper.wp execOp
  simp only [ho, hx, hy, Instr.storeAt, Instr.sureAddr, Sem.run_bind, Sem.run_pure, Result.andThen_ok, hrun]
  refine hK _ _ (h _ (setRow_heap w g cur.toArray _ t' (0, 0) hr) (below_setRow hb hB _) ?_)
  intro k ty l hk hrk
  exact (setRow_other w g k _ hk).trans hrk
section

variable {P : Program} {o : Oper} {ρ : Operand → Value} {w : World} {R : Value → World → Prop}
/-- A variable of a struct's type laid. -/
theorem gives_alloc {t : TypeId} {z : Value} {i : TypeInfo} (hi : P.info? t = some i) (hz : i.zero = some z) (ho : o.op = .alloc t) (hR : R (.pointer (some ⟨w.heap.size, 0, none⟩)) (w.alloc (.cells z.cells t))) : Gives P o ρ w R := by
  refine gives_of (v := .pointer (some ⟨w.heap.size, 0, none⟩)) (w' := w.alloc (.cells z.cells t)) ?_ hR
  have hz2 : (zeroValue t).run P w = .ok z w := by simp [zeroValue, typeInfo, hi, hz]
  unfold execOp
  simp only [ho, Instr.alloc, newVar, newRow, Sem.run_bind, Sem.run_pure, hz2, Result.andThen_ok, run_newObj]
  rfl
/-- The whole of a struct stored. -/
theorem gives_store_row {t t' : TypeId} {x y : Operand} {g : Nat} {old cs : List Value} (ho : o.op = .store t x y) (hx : ρ x = .pointer (some ⟨g, 0, none⟩)) (hy : ρ y = .agg cs.toArray) (hr : Row w g t' old)
    (hi : (P.info? t).map (·.size) = some cs.length) (hl : old.length = cs.length) (h1 : ∀ u ∈ cs, u.oneCell' = true) (hR : R undef (w.setRow g cs.toArray)) : Gives P o ρ w R := by
  have hrun := run_storeVar_row (P := P) w g t' t old.toArray cs.toArray hr (by simpa using hi) (by simp [hl]) (by simpa using h1)
  have h : (execOp ρ o).run P w = .ok .skip (w.setRow g cs.toArray) := by
    unfold execOp
    simp only [ho, hx, hy, Instr.storeAt, Instr.sureAddr, Sem.run_bind, Sem.run_pure, Result.andThen_ok, hrun]
  unfold Gives
  rw [h]
  exact hR
end
theorem rowAll_set {w : World} {g : Nat} {t : TypeId} {old cs : List Value} (h : Row w g t old) : Row (w.setRow g cs.toArray) g t cs := setRow_heap w g old.toArray cs.toArray t (0, 0) h
/-- A row made later lasts where block g alone changes. -/
theorem own_past {w w' : World} {base s n g : Nat} {e : TypeId} {v : Value} {xs : List Value} (h : w.ownsRow base e s v n xs) (hg : w.grownBy w' (some g)) (hlt : g < base) : w'.ownsRow base e s v n xs := by
  refine h.kept hg ?_
  rcases h.2 with ⟨rfl, _⟩ | ⟨g2, cap2, cur2, rfl, hge, _⟩
  · exact .inl rfl
  · refine .inr ?_
    simp only [Value.ownBlock, ne_eq, Option.some.injEq]
    omega
theorem grown_set (w : World) (g i : Nat) (v : Value) : w.grownBy (w.setCell ⟨g, i, none⟩ v) (some g) :=
  ⟨rfl, rfl, rfl, by rw [World.size_setCell]; exact Nat.le_refl _, fun k _ hne => Below.heap_setCell w _ v k (fun h => hne (by rw [h]))⟩
theorem isR_row {α : Type} {f : α → List Value} {l : List α} {w : World} {g : Nat} {t : TypeId} {m : Nat} (h : Row w g t (l.flatMap f)) (hl : l.length = m) (hm : m ≤ 1000000) : IsR f l (.slice (some ⟨g, 0, none⟩) m m) w := by
  refine ⟨some ⟨g, 0, none⟩, m, by rw [hl], fun h => by (cases h), by omega, by unfold maxLen; omega, ?_⟩
  have := h.lies 0
  rwa [List.drop_zero] at this
theorem ElemW.size_ {P : Program} {t e : TypeId} {bytes m : Nat} {z : Value} (E : ElemW P t e bytes m z) (w : World) : (sizeOf e).run P w = .ok m w := by
  obtain ⟨i, h1, _, h3, _⟩ := E.info
  simp [sizeOf, typeInfo, h1, h3]
/-- Old memory as it was; whatever block holds just these cells holds them on, and a block of their type stays one: for a region that lays a block and stores them. -/
def Keep (B : Nat) (T : TypeId) (cs : List Value) (w w' : World) : Prop := Below B w w' ∧ (∀ h, Row w h T cs → Row w' h T cs) ∧ (∀ h old, Row w h T old → old.length = cs.length → ∃ old', old'.length = cs.length ∧ Row w' h T old')
theorem Keep.of {B : Nat} {T : TypeId} {cs : List Value} {w w' : World} (hB : B ≤ w.heap.size) (h : Below w.heap.size w w') : Keep B T cs w w' :=
  ⟨h.mono hB, fun _ hr => hr.below h hr.lt, fun _ old hr hl => ⟨old, hl, hr.below h hr.lt⟩⟩
theorem Keep.alloc {B : Nat} {T : TypeId} {cs : List Value} {w : World} (hB : B ≤ w.heap.size) (o : Obj) : Keep B T cs w (w.alloc o) := Keep.of hB ((Below.refl _ _).alloc (Nat.le_refl _) _)
end Go.Proofs.YtocodcceimeiiaaDoor

/- Runs of bytes (layer 5), as plain mathematics: parts of rows of bytes, laid down and taken. -/

namespace Go.Proofs.YtocodcceimeiiaaDoor

/-- So many bytes out of parts, and what stands behind. -/
def ytakes : Nat → Nat → List UInt8 → Option (List UInt8 × List UInt8)
  | _, 0, l => some ([], l)
  | 0, _ + 1, _ => none
  | _ + 1, _ + 1, [] => none
  | f + 1, m + 1, c :: l =>
    if c.toNat < 128 then
      match l with
      | [] => none
      | x :: r => if m + 1 < c.toNat + 3 then none else (ytakes f (m + 1 - (c.toNat + 3)) r).map fun p => (List.replicate (c.toNat + 3) x ++ p.1, p.2)
    else if l.length < 256 - c.toNat then none else if m + 1 < 256 - c.toNat then none else (ytakes f (m + 1 - (256 - c.toNat)) (l.drop (256 - c.toNat))).map fun p => (l.take (256 - c.toNat) ++ p.1, p.2)
theorem ytakes_cons (f m : Nat) (c : UInt8) (l : List UInt8) : ytakes (f + 1) (m + 1) (c :: l) =
    if c.toNat < 128 then
      match l with
      | [] => none
      | x :: r => if m + 1 < c.toNat + 3 then none else (ytakes f (m + 1 - (c.toNat + 3)) r).map fun p => (List.replicate (c.toNat + 3) x ++ p.1, p.2)
    else if l.length < 256 - c.toNat then none else if m + 1 < 256 - c.toNat then none else (ytakes f (m + 1 - (256 - c.toNat)) (l.drop (256 - c.toNat))).map fun p => (l.take (256 - c.toNat) ++ p.1, p.2) := rfl
theorem ytakes_more : ∀ (f g m : Nat) (l : List UInt8), l.length ≤ f → l.length ≤ g → ytakes f m l = ytakes g m l
  | 0, 0, _, _, _, _ => rfl
  | _, _, 0, _, _, _ => by simp [ytakes]
  | 0, g + 1, m + 1, l, h, _ => by obtain rfl : l = [] := List.eq_nil_of_length_eq_zero (by omega); rfl
  | f + 1, 0, m + 1, l, _, h => by obtain rfl : l = [] := List.eq_nil_of_length_eq_zero (by omega); rfl
  | f + 1, g + 1, m + 1, [], _, _ => rfl
  | f + 1, g + 1, m + 1, c :: l, h, h' => by
    have hc := c.toNat_lt
    simp only [List.length_cons] at h h'
    rw [ytakes_cons, ytakes_cons]
    split
    · cases l with
      | nil => rfl
      | cons x r => simp only [List.length_cons] at h h'; simp only []; rw [ytakes_more f g _ r (by omega) (by omega)]
    · rw [ytakes_more f g _ (l.drop (256 - c.toNat)) (by rw [List.length_drop]; omega) (by rw [List.length_drop]; omega)]
def ytake (m : Nat) (l : List UInt8) : Option (List UInt8 × List UInt8) := ytakes l.length m l
theorem ytake_run {m : Nat} (h : 0 < m) {c : UInt8} (hc : c.toNat < 128) (x : UInt8) (r : List UInt8) :
    ytake m (c :: x :: r) = if m < c.toNat + 3 then none else (ytake (m - (c.toNat + 3)) r).map fun p => (List.replicate (c.toNat + 3) x ++ p.1, p.2) := by
  obtain ⟨k, rfl⟩ : ∃ k, m = k + 1 := ⟨m - 1, by omega⟩
  unfold ytake
  rw [List.length_cons, ytakes_cons, if_pos hc]
  simp only []
  rw [ytakes_more _ r.length _ r (by simp) (Nat.le_refl _)]
end Go.Proofs.YtocodcceimeiiaaDoor

/- Contracts of layer 5's reference: same, Put, Take. -/





namespace Go.Proofs.YtocodcceimeiiaaDoor

open Go.RowKit

theorem drop_at {l : List UInt8} {a : Nat} (h : a < l.length) : l.drop a = l[a] :: l.drop (a + 1) := List.drop_eq_getElem_cons h
end Go.Proofs.YtocodcceimeiiaaDoor

/- The contract of layer 5's reference's Take. -/



namespace Go.Proofs.YtocodcceimeiiaaDoor

open Go.RowKit

/-- Two rows of bytes and an error that a call answers. -/
def RetBB (w : World) (p : List UInt8 × List UInt8 × Int) (e : Ending) (w' : World) : Prop :=
  ∃ u v, e = .returned (.tuple #[u, v, .int .i64 p.2.2]) ∧ IsB p.1 u w' ∧ IsB p.2.1 v w' ∧ Below w.heap.size w w'
theorem RetBB.nil {w w' : World} (n : Int) (hb : Below w.heap.size w w') : RetBB w ([], [], n) (.returned (.tuple #[.slice none 0 0, .slice none 0 0, .int .i64 n])) w' := ⟨_, _, rfl, isB_nil _, isB_nil _, hb⟩
/-- Some parts are taken: what is still to come. -/
def YLeft (l : List UInt8) (M a : Nat) (m : List UInt8) : Prop :=
  (m.length ≤ M ∧ ytake M l = (ytake (M - m.length) (l.drop a)).map fun p => (m ++ p.1, p.2)) ∨ (M < m.length ∧ ytake M l = none)
theorem YLeft.run {l m : List UInt8} {M a c : Nat} (h : YLeft l M a m) (hm : m.length < M) (ha : a + 1 < l.length) (hc : c = l[a].toNat) (h128 : c < 128) : YLeft l M (a + 2) (m ++ List.replicate (c + 3) l[a + 1]) := by
  rcases h with ⟨_, h⟩ | ⟨h, _⟩
  · rw [drop_at (show a < l.length by omega), drop_at ha, ytake_run (by omega) (by omega), ← hc] at h
    by_cases hM : M - m.length < c + 3
    · rw [if_pos hM] at h
      exact .inr ⟨by rw [List.length_append, List.length_replicate]; omega, h⟩
    · rw [if_neg hM] at h
      refine .inl ⟨by rw [List.length_append, List.length_replicate]; omega, ?_⟩
      rw [h, Option.map_map, List.length_append, List.length_replicate, show M - (m.length + (c + 3)) = M - m.length - (c + 3) by omega]
      congr 1
      funext p
      simp
  · omega
theorem YLeft.over {l m : List UInt8} {M a : Nat} (h : YLeft l M a m) (hm : M < m.length) : ytake M l = none := by
  rcases h with ⟨h1, _⟩ | ⟨_, h⟩
  · omega
  · exact h

end Go.Proofs.YtocodcceimeiiaaDoor

/- Truths as bits of bytes, and these as runs of bytes (layer 6), as plain mathematics. -/





namespace Go.Proofs.YtocodcceimeiiaaDoor

def qn (l : List Bool) : List Nat := l.map Bool.toNat
end Go.Proofs.YtocodcceimeiiaaDoor

/- Contracts of layer 6's reference: Same, Count, Put, Take. -/









namespace Go.Proofs.YtocodcceimeiiaaDoor

open Go.RowKit

end Go.Proofs.YtocodcceimeiiaaDoor

/- The contract of layer 6's reference's Take. -/





namespace Go.Proofs.YtocodcceimeiiaaDoor

open Go.RowKit

/-- Truths, bytes and an error that a call answers. -/
def RetLB (w : World) (p : List Bool × List UInt8 × Int) (e : Ending) (w' : World) : Prop :=
  ∃ u v, e = .returned (.tuple #[u, v, .int .i64 p.2.2]) ∧ IsV Value.bool p.1 u w' ∧ IsB p.2.1 v w' ∧ Below w.heap.size w w'
theorem RetLB.nil {w w' : World} (n : Int) (hb : Below w.heap.size w w') : RetLB w ([], [], n) (.returned (.tuple #[.slice none 0 0, .slice none 0 0, .int .i64 n])) w' := ⟨_, _, rfl, isV_nil _ _, isB_nil _, hb⟩
/-- The same, the truths in a row of the call's own. -/
def RetLBO (w : World) (p : List Bool × List UInt8 × Int) (e : Ending) (w' : World) : Prop :=
  ∃ u v, e = .returned (.tuple #[u, v, .int .i64 p.2.2]) ∧ OwnV Value.bool 4 w p.1 u w' ∧ IsB p.2.1 v w' ∧ Below w.heap.size w w'
theorem RetLBO.nil {w w' : World} (n : Int) (hb : Below w.heap.size w w') : RetLBO w ([], [], n) (.returned (.tuple #[.slice none 0 0, .slice none 0 0, .int .i64 n])) w' := ⟨_, _, rfl, OwnV.nil _ _ _ _, isB_nil _, hb⟩
theorem RetLBO.lb {w w' : World} {p : List Bool × List UInt8 × Int} {e : Ending} (h : RetLBO w p e w') : RetLB w p e w' := by
  obtain ⟨u, v, h1, h2, h3, h4⟩ := h
  exact ⟨u, v, h1, h2.isV, h3, h4⟩
end Go.Proofs.YtocodcceimeiiaaDoor

/- Values of columns (layer 12), as plain mathematics. -/







namespace Go.Proofs.YtocodcceimeiiaaDoor

/-- A value: nothing, a number, a text. -/
structure CV where
  null : Bool
  n : Int
  s : ByteArray
def cv (v : CV) : Value := .agg #[.bool v.null, .int .i64 v.n, .string v.s]
def CV.inInt (v : CV) : Prop := -9223372036854775808 ≤ v.n ∧ v.n ≤ 9223372036854775807
/-- One text stands ahead of another. -/
def sless (a b : ByteArray) : Bool := Op.bytesLess a.toList b.toList
theorem sless_iff (a b : ByteArray) : sless a b = true ↔ a.data.toList < b.data.toList := by
  unfold sless
  rw [bytesLess_eq, ByteArray.toList_eq, ByteArray.toList_eq, decide_eq_true_iff]
theorem sless_not (a : ByteArray) : sless a a = false := by
  rw [← Bool.not_eq_true, sless_iff]
  exact List.lt_irrefl _
theorem sless_trans {a b c : ByteArray} (h1 : sless a b = true) (h2 : sless b c = true) : sless a c = true := by
  rw [sless_iff] at *
  exact List.lt_trans h1 h2
theorem bytes_ext {a b : ByteArray} (h : a.data.toList = b.data.toList) : a = b := by
  cases a; cases b
  congr 1
  exact Array.toList_inj.1 h
theorem sless_total {a b : ByteArray} (h : a ≠ b) : sless a b = true ∨ sless b a = true := by
  rw [sless_iff, sless_iff]
  by_cases h1 : a.data.toList < b.data.toList
  · exact .inl h1
  · refine .inr ?_
    have h2 : b.data.toList ≤ a.data.toList := List.not_lt.1 h1
    rcases List.le_iff_lt_or_eq.1 h2 with h3 | h3
    · exact h3
    · exact absurd (bytes_ext h3).symm h
theorem sless_asymm {a b : ByteArray} (h : sless a b = true) : sless b a = false := by
  rw [← Bool.not_eq_true]
  intro h2
  have := sless_trans h h2
  rw [sless_not] at this
  cases this
/-- How two values are compared. -/
def kcmp (a b : CV) : Int :=
  if a.null ≠ b.null then (if a.null = true then -1 else 1)
  else if a.n ≠ b.n then (if a.n < b.n then -1 else 1)
  else if a.s ≠ b.s then (if sless a.s b.s = true then -1 else 1)
  else 0
theorem CV.ext' {a b : CV} (h1 : a.null = b.null) (h2 : a.n = b.n) (h3 : a.s = b.s) : a = b := by cases a; cases b; simp_all
theorem kcmp_self (a : CV) : kcmp a a = 0 := by unfold kcmp; simp
theorem kcmp_null {a b : CV} (h : a.null ≠ b.null) : kcmp a b = if a.null = true then -1 else 1 := by unfold kcmp; rw [if_pos h]
theorem kcmp_n {a b : CV} (h : a.null = b.null) (h2 : a.n ≠ b.n) : kcmp a b = if a.n < b.n then -1 else 1 := by unfold kcmp; rw [if_neg fun h3 => h3 h, if_pos h2]
theorem kcmp_s {a b : CV} (h : a.null = b.null) (h2 : a.n = b.n) (h3 : a.s ≠ b.s) : kcmp a b = if sless a.s b.s = true then -1 else 1 := by unfold kcmp; rw [if_neg fun h4 => h4 h, if_neg fun h4 => h4 h2, if_pos h3]
theorem kcmp_neg (a b : CV) : kcmp a b = -kcmp b a := by
  by_cases h1 : a.null = b.null
  · by_cases h2 : a.n = b.n
    · by_cases h3 : a.s = b.s
      · rw [CV.ext' h1 h2 h3, kcmp_self]; rfl
      · rw [kcmp_s h1 h2 h3, kcmp_s h1.symm h2.symm fun h => h3 h.symm]
        rcases sless_total h3 with h4 | h4
        · rw [if_pos h4, sless_asymm h4]; rfl
        · rw [if_pos h4, sless_asymm h4]; rfl
    · rw [kcmp_n h1 h2, kcmp_n h1.symm fun h => h2 h.symm]
      by_cases h4 : a.n < b.n
      · rw [if_pos h4, if_neg (by omega)]
      · rw [if_neg h4, if_pos (by omega)]; rfl
  · rw [kcmp_null h1, kcmp_null fun h => h1 h.symm]
    cases ha : a.null <;> cases hb : b.null <;> simp_all
end Go.Proofs.YtocodcceimeiiaaDoor

/- Contracts of layer 12's reference. -/







namespace Go.Proofs.YtocodcceimeiiaaDoor

open Go.RowKit

def kcells (v : CV) : List Value := [.bool v.null, .int .i64 v.n, .string v.s]
/-- A column: its name, its kind. -/
structure CC where
  s : ByteArray
  kind : Int
theorem kcmp_of (an bn : Bool) (ai bi : Int) (as_ bs : ByteArray) : kcmp ⟨an, ai, as_⟩ ⟨bn, bi, bs⟩ = if (!an == bn) = true then (if an = true then -1 else 1) else if (ai != bi) = true then (if decide (ai < bi) = true then -1 else 1) else if (!as_.toList == bs.toList) = true then (if Op.bytesLess as_.toList bs.toList = true then -1 else 1) else 0 := by
  by_cases g1 : an = bn
  · subst g1
    by_cases g2 : ai = bi
    · subst g2
      by_cases g3 : as_ = bs
      · subst g3; rw [kcmp_self]; simp
      · have h2 : ¬ as_.toList = bs.toList := by
          rw [ByteArray.toList_eq, ByteArray.toList_eq]
          exact fun h2 => g3 (bytes_ext h2)
        rw [kcmp_s (a := ⟨an, ai, as_⟩) (b := ⟨an, ai, bs⟩) rfl rfl g3]
        simp [h2, sless]
        rfl
    · rw [kcmp_n (a := ⟨an, ai, as_⟩) (b := ⟨an, bi, bs⟩) rfl g2]
      simp [g2]
  · rw [kcmp_null (a := ⟨an, ai, as_⟩) (b := ⟨bn, bi, bs⟩) g1]
    simp [g1]
set_option maxHeartbeats 1000000 in
set_option maxRecDepth 100000 in
theorem rcmp12_any (a b : CV) (w : World) : Calls Tryd.prog 36 #[cv a, cv b] w fun e w' => e = .returned (.int .i64 (kcmp a b)) ∧ Below w.heap.size w w' := by
  obtain ⟨an, ai, as_⟩ := a
  obtain ⟨bn, bi, bs⟩ := b
  have hA : Row ((w.alloc (.cells #[.bool an, .int .i64 ai, .string as_] 32)).alloc (.cells #[.bool bn, .int .i64 bi, .string bs] 32)) w.heap.size 32 [.bool an, .int .i64 ai, .string as_] := (show Row (w.alloc _) _ _ _ from heap_alloc_new w _).alloc _
  have hB : Row ((w.alloc (.cells #[.bool an, .int .i64 ai, .string as_] 32)).alloc (.cells #[.bool bn, .int .i64 bi, .string bs] 32)) (w.heap.size + 1) 32 [.bool bn, .int .i64 bi, .string bs] := by
    have h := heap_alloc_new (w.alloc (.cells #[.bool an, .int .i64 ai, .string as_] 32)) (.cells #[.bool bn, .int .i64 bi, .string bs] 32)
    rw [show (w.alloc (.cells #[.bool an, .int .i64 ai, .string as_] 32)).heap.size = w.heap.size + 1 by simp] at h
    exact h
  have hb : Below w.heap.size w ((w.alloc (.cells #[.bool an, .int .i64 ai, .string as_] 32)).alloc (.cells #[.bool bn, .int .i64 bi, .string bs] 32)) := ((Below.refl _ _).alloc (Nat.le_refl _) _).alloc (by simp) _
  have HBE := Lib.hid hb
  have a0 := hA.cell 0
  have a1 := hA.cell 1
  have a2 := hA.cell 2
  have b0 := hB.cell 0
  have b1 := hB.cell 1
  have b2 := hB.cell 2
  clear hA hB hb
  unfold cv
  cases h0 : (!an == bn)
  · cases h1 : (ai != bi)
    · cases h2 : (!as_.toList == bs.toList)
      · have HK := Lib.hid (kcmp_of an bn ai bi as_ bs)
        rw [h0, h1, h2] at HK
        go_enter Tryd.func36, Tryd.ntmps36
        go_wp2
        go_ret
        exact ⟨by rw [HK.out]; rfl, HBE.out⟩
      · cases h3 : Op.bytesLess as_.toList bs.toList
        · have HK := Lib.hid (kcmp_of an bn ai bi as_ bs)
          rw [h0, h1, h2, h3] at HK
          go_enter Tryd.func36, Tryd.ntmps36
          go_wp2
          go_ret
          exact ⟨by rw [HK.out]; rfl, HBE.out⟩
        · have HK := Lib.hid (kcmp_of an bn ai bi as_ bs)
          rw [h0, h1, h2, h3] at HK
          go_enter Tryd.func36, Tryd.ntmps36
          go_wp2
          go_ret
          exact ⟨by rw [HK.out]; rfl, HBE.out⟩
    · cases h3 : decide (ai < bi)
      · have HK := Lib.hid (kcmp_of an bn ai bi as_ bs)
        rw [h0, h1, h3] at HK
        go_enter Tryd.func36, Tryd.ntmps36
        go_wp2
        go_ret
        exact ⟨by rw [HK.out]; rfl, HBE.out⟩
      · have HK := Lib.hid (kcmp_of an bn ai bi as_ bs)
        rw [h0, h1, h3] at HK
        go_enter Tryd.func36, Tryd.ntmps36
        go_wp2
        go_ret
        exact ⟨by rw [HK.out]; rfl, HBE.out⟩
  · cases an
    · cases bn
      · simp at h0
      · have HK := Lib.hid (kcmp_of false true ai bi as_ bs)
        rw [h0] at HK
        clear h0
        go_enter Tryd.func36, Tryd.ntmps36
        go_wp2
        go_ret
        exact ⟨by rw [HK.out]; rfl, HBE.out⟩
    · cases bn
      · have HK := Lib.hid (kcmp_of true false ai bi as_ bs)
        rw [h0] at HK
        clear h0
        go_enter Tryd.func36, Tryd.ntmps36
        go_wp2
        go_ret
        exact ⟨by rw [HK.out]; rfl, HBE.out⟩
      · simp at h0
end Go.Proofs.YtocodcceimeiiaaDoor

/- Contracts of what the program's layer 12 calls of Go's library: strings.HasPrefix, strings.Compare, cmp.Compare at int. -/













namespace Go.Proofs.YtocodcceimeiiaaDoor

open Go.RowKit

set_option maxHeartbeats 1000000 in
theorem llite_prefix (s p : ByteArray) (w : World) : Calls Tryd.prog 64 #[.string s, .string p] w fun e w' => e = .returned (.bool (Lib.hasPrefix s.data.toList p.data.toList)) ∧ w = w' := by
  rw [← Lib.hasPrefix_of_take, ← Lib.size_eq, ← Lib.size_eq]
  go_enter Tryd.func64, Tryd.ntmps64
  go_wp2
  · rename_i h
    go_ret
    refine ⟨?_, rfl⟩
    show Ending.returned (Value.bool ((s.extract 0 p.size).toList == p.toList)) = _
    rw [Lib.extract_toList, Lib.toList_data]
    simp [h]
  · rename_i h
    go_ret
    refine ⟨?_, rfl⟩
    show Ending.returned (Value.bool false) = _
    simp [h]
theorem lprefix_any (s p : ByteArray) (w : World) : Calls Tryd.prog 61 #[.string s, .string p] w fun e w' => e = .returned (.bool (Lib.hasPrefix s.data.toList p.data.toList)) ∧ w = w' := by
  go_enter Tryd.func61, Tryd.ntmps61
  go_wp2_with (go_at_call 64; refine (llite_prefix _ _ _).mono ?_; rintro e w' ⟨rfl, rfl⟩)
  go_ret
  exact ⟨rfl, rfl⟩
set_option maxHeartbeats 1000000 in
theorem lcompareI_any (x y : Int) (w : World) : Calls Tryd.prog 58 #[.int .i64 x, .int .i64 y] w fun e w' => e = .returned (.int .i64 (Lib.compareInt x y)) ∧ w = w' := by
  go_enter Tryd.func58, Tryd.ntmps58
  go_wp2
  all_goals (go_ret; refine ⟨?_, rfl⟩; unfold Lib.compareInt; (repeat' split) <;> first | rfl | (exfalso; omega))
set_option maxHeartbeats 1000000 in
set_option maxRecDepth 100000 in
theorem lbytealg_any (a b : ByteArray) (w : World) : Calls Tryd.prog 63 #[.string a, .string b] w fun e w' => e = .returned (.int .i64 (Lib.compareBytes a.data.toList b.data.toList)) ∧ w = w' := by
  go_enter Tryd.func63, Tryd.ntmps63
  go_wp2
  rw [run_callFunc_extern Tryd.func65 (by kernel_rfl) (by kernel_rfl) (by kernel_rfl) (e := Extern.BytealgCompare.compare) (by kernel_rfl), Lib.run_compareString]
  simp only [Result.andThen]
  rw [Oper.upon_value]
  go_wp2
  go_ret
  exact ⟨rfl, rfl⟩
theorem lcompareS_any (a b : ByteArray) (w : World) : Calls Tryd.prog 59 #[.string a, .string b] w fun e w' => e = .returned (.int .i64 (Lib.compareBytes a.data.toList b.data.toList)) ∧ w = w' := by
  go_enter Tryd.func59, Tryd.ntmps59
  go_wp2_with (go_at_call 63; refine (lbytealg_any _ _ _).mono ?_; rintro e w' ⟨rfl, rfl⟩)
  go_ret
  exact ⟨rfl, rfl⟩
/-- strings.Compare's answer in the words of layer 12. -/
theorem compareBytes_lists : ∀ a b : List UInt8, Lib.compareBytes a b = if a = b then 0 else if a < b then -1 else 1
  | [], [] => by simp [Lib.compareBytes]
  | [], _ :: _ => by simp [Lib.compareBytes]
  | _ :: _, [] => by simp [Lib.compareBytes]
  | x :: a, y :: b => by
    have ih := compareBytes_lists a b
    unfold Lib.compareBytes
    rw [ih]
    by_cases h1 : x < y
    · rw [if_pos h1, if_neg (fun h => by injection h with h _; subst h; exact absurd h1 (UInt8.lt_irrefl x)), if_pos (List.cons_lt_cons_iff.2 (.inl h1))]
    · rw [if_neg h1]
      by_cases h2 : y < x
      · rw [if_pos h2, if_neg (fun h => by injection h with h _; subst h; exact absurd h2 (UInt8.lt_irrefl x)), if_neg]
        intro h
        rcases List.cons_lt_cons_iff.1 h with h | ⟨h, _⟩
        · exact h1 h
        · subst h; exact absurd h2 (UInt8.lt_irrefl x)
      · rw [if_neg h2]
        have hxy : x = y := by
          apply UInt8.le_antisymm
          · exact UInt8.not_lt.1 h2
          · exact UInt8.not_lt.1 h1
        subst hxy
        by_cases h3 : a = b
        · subst h3; simp
        · rw [if_neg h3, if_neg (fun h => h3 (List.cons.inj h).2)]
          by_cases h4 : a < b
          · rw [if_pos h4, if_pos (List.cons_lt_cons_iff.2 (.inr ⟨rfl, h4⟩))]
          · rw [if_neg h4, if_neg]
            intro h
            rcases List.cons_lt_cons_iff.1 h with h | ⟨_, h⟩
            · exact absurd h (UInt8.lt_irrefl x)
            · exact h4 h
theorem compareBytes_sless (a b : ByteArray) : Lib.compareBytes a.data.toList b.data.toList = if a = b then 0 else if sless a b = true then -1 else 1 := by
  rw [compareBytes_lists]
  by_cases h : a = b
  · subst h; simp
  · rw [if_neg h, if_neg (fun h2 => h (bytes_ext h2))]
    by_cases h2 : sless a b = true
    · rw [if_pos h2, if_pos ((sless_iff a b).1 h2)]
    · rw [if_neg h2, if_neg (fun h3 => h2 ((sless_iff a b).2 h3))]
end Go.Proofs.YtocodcceimeiiaaDoor
