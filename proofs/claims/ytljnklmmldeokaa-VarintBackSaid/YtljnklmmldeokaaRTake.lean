/- The contract of the reference's Take. -/
import Derived.Test.YtljnklmmldeokaaTake
import Derived.Test.YtljnklmmldeokaaOps
import Derived.Deep.RegionWith
import Derived.Deep.RegionLaw
import Derived.BigGuardPart
namespace Go.Proofs.Ytljnklmmldeokaa
open Go.RowKit

def RTakeRel (l : List UInt8) (i : Value) : Prop :=
  ∃ k : Nat, i = .int .i64 (k : Int) ∧ k ≤ 9 ∧ k ≤ l.length ∧ ∀ j (h : j < l.length), j < k → 128 ≤ l[j].toNat

def RTakeRel2 (l : List UInt8) (n : Nat) (x i : Value) : Prop :=
  ∃ m : Nat, i = .int .i64 ((m : Int) - 1) ∧ m ≤ n + 1 ∧ x = .int .u64 ((vsum ((l.take (n + 1)).drop m) % 18446744073709551616 : Nat) : Int)

theorem vsum_cut (l : List UInt8) (n m : Nat) (h : m < n + 1) (hl : n < l.length) :
    (128 * (vsum ((l.take (n + 1)).drop (m + 1)) % 18446744073709551616) % 18446744073709551616 + (l[m]'(by omega)).toNat % 128) % 18446744073709551616 = vsum ((l.take (n + 1)).drop m) % 18446744073709551616 := by
  have hm : m < (l.take (n + 1)).length := by rw [List.length_take]; omega
  rw [List.drop_eq_getElem_cons hm, vsum, List.getElem_take]
  omega

set_option maxHeartbeats 1000000 in
set_option maxRecDepth 100000 in
theorem rtake_any (A : Option Addr) (n c : Nat) (l : List UInt8) (w : World) (hA : A = none → n = 0) (hn : l.length = n) (hnc : n ≤ c) (hnb : n ≤ 1000000) (hl : Lies w A (l.map bv)) :
    Calls Try.prog 15 #[.slice A n c] w (RetT .u64 w ((vtake l).map fun p => ((p.1 : Int), p.2))) := by
  go_enter Try.func15, Try.ntmps15
  go_wp2
  go_loop [5] (RTakeRel l) (fun i => 10 - (intOf i).toNat)
  case atStart => exact ⟨0, rfl, by omega, by omega, by omega⟩
  case round =>
    obtain ⟨k, rfl, hk, hkl, hhi⟩ := hrel
    have HH := Lib.hid hhi
    clear hhi
    by_cases hgo : ∃ h : k < l.length, k < 9 ∧ 128 ≤ l[k].toNat
    · obtain ⟨hk1, hk2, hk3⟩ := hgo
      obtain ⟨ad, rfl, _, hc⟩ := hl.cell (k := k) (by rw [List.length_map]; omega)
      obtain ⟨b, hb⟩ : ∃ b : Nat, b = (l[k]'(by omega)).toNat := ⟨_, rfl⟩
      have hcb : w.cell? (ad.add k) = some (.int .u8 (b : Int)) := by rw [hc, List.getElem_map, hb]; rfl
      rw [← hb] at hk3
      have HB := Lib.hid hb
      clear hb hc
      rw [hn] at hk1
      have g1 : (k : Int) < (n : Int) := by omega
      have g2 : (k : Int) < 9 := by omega
      have g3 : (128 : Int) ≤ (b : Int) := by omega
      go_wp2
      go_round
      case rel =>
        refine ⟨k + 1, by go_num, by omega, by omega, ?_⟩
        intro j hj hjk
        by_cases hjk' : j = k
        · subst hjk'; rw [← HB.out]; omega
        · exact HH.out j hj (by omega)
      case measure => simp [intOf]; omega
    · have hst : vstops l k := by
        refine ⟨hk, hkl, HH.out, ?_⟩
        by_cases h9 : k = 9
        · exact .inl h9
        · refine .inr fun h => ?_
          by_cases h128 : 128 ≤ l[k].toNat
          · exact absurd ⟨h, by omega, h128⟩ hgo
          · omega
      have HS := Lib.hid hst
      clear hst hgo
      by_cases hkn : k < n
      · obtain ⟨ad, rfl, _, hc⟩ := hl.cell (k := k) (by rw [List.length_map]; omega)
        obtain ⟨b, hb⟩ : ∃ b : Nat, b = (l[k]'(by omega)).toNat := ⟨_, rfl⟩
        have hcb : w.cell? (ad.add k) = some (.int .u8 (b : Int)) := by rw [hc, List.getElem_map, hb]; rfl
        have hb256 : b < 256 := by rw [hb]; exact UInt8.toNat_lt _
        have HB := Lib.hid hb
        clear hc hb
        have g1 : (k : Int) < (n : Int) := by omega
        by_cases h9 : k = 9
        · have g2 : ¬ (k : Int) < 9 := by omega
          have H9 := Lib.hid h9
          clear h9
          go_wp2
          go_loop [6, 7] (RTakeRel2 l k) (fun _ i => (intOf i + 1).toNat)
          case atStart => exact ⟨k + 1, by go_num, by omega, by simp [vsum]⟩
          case round =>
            obtain ⟨m, rfl, hm, rfl⟩ := hrel
            obtain ⟨X, hX⟩ : ∃ X : Nat, X = vsum (List.drop m (List.take (k + 1) l)) % 18446744073709551616 := ⟨_, rfl⟩
            rw [← hX]
            have hXb : (X : Int) < 18446744073709551616 := by omega
            by_cases hm0 : m = 0
            · subst hm0
              have HX := Lib.hid hX
              clear hX
              have hlt : Lies w (some ad) ((l.take (k + 1)).map bv) := by rw [List.map_take]; exact hl.take _
              have htl : (l.take (k + 1)).length = k + 1 := by rw [List.length_take]; omega
              go_wp2
              refine wp_region_list [.is (.int .u64 (X : Int)), .bytes (vput X), .is (.string ⟨(vput X).toArray⟩), .is (.slice (some ad) n c), .is (.int .i64 (k : Int)), .is (.int .i64 ((k : Int) + 1)), .is (.slice (some ad) (k + 1) c),
                .is (.string ⟨(l.take (k + 1)).toArray⟩), .is (.bool !(vput X == l.take (k + 1)))] [some 43, some 44, some 45, some 46, some 47, some 48, some 49, some 50, some 51] (by kernel_rfl) (by kernel_rfl) (by kernel_rfl) rfl ⟨?_, ?_, ?_, ?_, ?_, ?_, ?_, ?_, ?_, trivial⟩ ?_
              · intro ρ w1 hb1 H
                exact gives_move rfl (H.old 6 _ (by kernel_rfl) rfl) ⟨rfl, Below.refl _ _⟩
              · intro ρ w1 hb1 H
                have e0 : ρ (.tmp 43) = .int .u64 (X : Int) := H.new 43 0 (by kernel_rfl)
                refine gives_call rfl ent11 (H.func _) (args := #[.slice none 0 0, .int .u64 (X : Int)]) (by simp [H.const, e0]) ?_
                refine (rput_any none 0 0 (X : Int) [] _ (by simp) rfl (by omega) Lies.nil (by omega) hXb).mono fun e w2 h => ?_
                exact h.isB
              · intro ρ w1 hb1 H
                obtain ⟨A1, c1, e1, h1, h2, h3, h4⟩ : IsB (vput X) (ρ (.tmp 44)) w1 := H.new 44 1 (by kernel_rfl)
                exact gives_convert rfl e1 (run_text w1 _ _ _ Try.underlying22 Try.underlying5 Try.underlying9 A1 _ c1 _ rfl h4) ⟨rfl, Below.refl _ _⟩
              · intro ρ w1 hb1 H
                exact gives_move rfl (H.old 0 _ (by kernel_rfl) rfl) ⟨rfl, Below.refl _ _⟩
              · intro ρ w1 hb1 H
                exact gives_move rfl (H.old 5 _ (by kernel_rfl) rfl) ⟨rfl, Below.refl _ _⟩
              · intro ρ w1 hb1 H
                exact gives_add rfl (H.new 47 4 (by kernel_rfl)) (H.const _) (by omega) (by omega) ⟨rfl, Below.refl _ _⟩
              · intro ρ w1 hb1 H
                exact gives_upto elemB rfl (H.new 46 3 (by kernel_rfl)) (h := k + 1) (H.new 48 5 (by kernel_rfl)) (by omega) ⟨rfl, Below.refl _ _⟩
              · intro ρ w1 hb1 H
                exact gives_convert rfl (H.new 49 6 (by kernel_rfl)) (run_text w1 _ _ _ Try.underlying22 Try.underlying5 Try.underlying9 _ _ _ _ htl (hlt.below hb1)) ⟨rfl, Below.refl _ _⟩
              · intro ρ w1 hb1 H
                exact gives_textne rfl (H.new 45 2 (by kernel_rfl)) (H.new 50 7 (by kernel_rfl)) ⟨rfl, Below.refl _ _⟩
              · intro vs w1 hb1 hfs
                have f8 : vs 8 = .bool !(vput X == l.take (k + 1)) := hfs 8 (by decide)
                clear hfs
                generalize vs 0 = v0 at *; generalize vs 1 = v1 at *; generalize vs 2 = v2 at *; generalize vs 3 = v3 at *; generalize vs 4 = v4 at *; generalize vs 5 = v5 at *; generalize vs 6 = v6 at *; generalize vs 7 = v7 at *
                by_cases he : vput X = l.take (k + 1)
                · have hb8 : (vput X == l.take (k + 1)) = true := by simpa using he
                  rw [hb8] at f8
                  have HE : Hid (vtake l = some (X, l.drop (k + 1))) := by
                    show vtake l = _
                    have h2 := HX.out
                    rw [List.drop_zero] at h2
                    have h1 := vtake_same (l := l) (n := k) (by rw [← h2]; exact he)
                    rw [h1, ← h2]
                  simp only [putAll, f8, Bool.not_true, Act.put, List.setIfInBounds_toArray, List.set_cons_succ, List.set_cons_zero]
                  clear he hb8 f8
                  have hz1 := hb1.size
                  have hbb : Below w.heap.size w (w1.alloc (.cells #[] 5)) := hb1.alloc hb1.size _
                  have hown0 : (w1.alloc (.cells #[] 5)).ownsRow w.heap.size 5 1 (.slice (some ⟨w1.heap.size, 0, none⟩) 0 0) 0 [] := World.ownsRow_made w1 #[] 0 hb1.size (by unfold maxLen; omega) (by simp)
                  have hdl : ((l.drop (k + 1)).map bv).length = n - (k + 1) := by rw [List.length_map, List.length_drop, hn]
                  have hlk : Lies (w1.alloc (.cells #[] 5)) (some ⟨ad.block, ad.off + (k + 1), none⟩) ((l.drop (k + 1)).map bv) := by rw [List.map_drop]; exact (hl.drop_some k).below hbb
                  have hzz : w.heap.size ≤ (w1.alloc (.cells #[] 5)).heap.size := by simp; omega
                  have HF : Hid (∀ (v : Value) (w2 : World), w2.ownsRow w.heap.size 5 1 v (n - (k + 1)) ((l.drop (k + 1)).map bv) → Below w.heap.size w w2 →
                      RetT .u64 w ((vtake l).map fun p => ((p.1 : Int), p.2)) (.returned (.tuple #[.int .u64 (X : Int), v, .int .i64 0])) w2) := by
                    show ∀ (v : Value) (w2 : World), _
                    intro v w2 hown hb
                    obtain ⟨B, c', hB, h2, h3, h4, h5, h6⟩ := ret_own (w0 := w) hown hb
                    injection hB with hB
                    subst hB
                    rw [HE.out]
                    exact ⟨B, c', rfl, h2, h3, h4, h5, h6⟩
                  by_cases hck : c = k + 1
                  · obtain rfl : n = k + 1 := by omega
                    have hd0 : (l.drop (k + 1)).map bv = [] := List.eq_nil_of_length_eq_zero (by omega)
                    have HD := Lib.hid hd0
                    clear hd0 hdl
                    go_wp2_with (at_builtin; refine wpList_join elemB rfl _ _ rfl w.heap.size _ _ _ _ _ _ [] w rfl rfl (by simp) (by simp) Lies.nil (by simp) hown0 hbb hzz (by omega) (by omega) ?_)
                    intro vv w2 hown2 hb2 _ _
                    go_wp2
                    go_ret3
                    exact HF.out vv w2 (by rw [HD.out]; simpa using hown2) hb2
                  · go_wp2_with (at_builtin; refine wpList_join elemB rfl _ _ rfl w.heap.size _ _ _ _ _ _ ((l.drop (k + 1)).map bv) w rfl rfl (by simp) hdl hlk (bv_one _) hown0 hbb hzz (by omega) (by omega) ?_)
                    intro vv w2 hown2 hb2 _ _
                    go_wp2
                    go_ret3
                    exact HF.out vv w2 (by simpa using hown2) hb2
                · have hb8 : (vput X == l.take (k + 1)) = false := by simpa using he
                  rw [hb8] at f8
                  have HE : Hid (vtake l = none) := by
                    show vtake l = none
                    refine vtake_other HS.out ?_
                    have h2 := HX.out
                    rw [List.drop_zero] at h2
                    rw [← h2]
                    exact he
                  simp only [putAll, f8, Bool.not_false, Act.put, List.setIfInBounds_toArray, List.set_cons_succ, List.set_cons_zero]
                  clear he hb8 f8
                  go_wp2
                  go_ret3
                  rw [HE.out]
                  exact ⟨rfl, hb1⟩
            · obtain ⟨m, rfl⟩ : ∃ j, m = j + 1 := ⟨m - 1, by omega⟩
              have hcut := vsum_cut l k m (by omega) (by omega)
              rw [← hX] at hcut
              obtain ⟨ad', had, _, hc'⟩ := hl.cell (k := m) (by rw [List.length_map]; omega)
              injection had with had
              subst had
              obtain ⟨b', hb'⟩ : ∃ b' : Nat, b' = (l[m]'(by omega)).toNat := ⟨_, rfl⟩
              have hcb' : w.cell? (ad.add m) = some (.int .u8 (b' : Int)) := by rw [hc', List.getElem_map, hb']; rfl
              have hb256' : b' < 256 := by rw [hb']; exact UInt8.toNat_lt _
              rw [← hb'] at hcut
              have HC := Lib.hid hcut
              clear hcut hX hc' hb' hcb
              have hmn : (m : Int) < (n : Int) := by omega
              have hmi : ((m + 1 : Nat) : Int) - 1 = (m : Int) := by omega
              rw [hmi]
              go_wp2
              go_round
              case rel =>
                refine ⟨m, rfl, by omega, ?_⟩
                have h3 := HC.out
                rw [← h3]
                congr 1
              case measure => simp [intOf]
        · have g3 : (b : Int) < 128 := by
            rcases HS.out.2.2.2 with h | h
            · omega
            · have := h (by omega); rw [← HB.out] at this; omega
          have g2 : (k : Int) < 9 := by omega
          go_wp2
          go_loop [6, 7] (RTakeRel2 l k) (fun _ i => (intOf i + 1).toNat)
          case atStart => exact ⟨k + 1, by go_num, by omega, by simp [vsum]⟩
          case round =>
            obtain ⟨m, rfl, hm, rfl⟩ := hrel
            obtain ⟨X, hX⟩ : ∃ X : Nat, X = vsum (List.drop m (List.take (k + 1) l)) % 18446744073709551616 := ⟨_, rfl⟩
            rw [← hX]
            have hXb : (X : Int) < 18446744073709551616 := by omega
            by_cases hm0 : m = 0
            · subst hm0
              have HX := Lib.hid hX
              clear hX
              have hlt : Lies w (some ad) ((l.take (k + 1)).map bv) := by rw [List.map_take]; exact hl.take _
              have htl : (l.take (k + 1)).length = k + 1 := by rw [List.length_take]; omega
              go_wp2
              refine wp_region_list [.is (.int .u64 (X : Int)), .bytes (vput X), .is (.string ⟨(vput X).toArray⟩), .is (.slice (some ad) n c), .is (.int .i64 (k : Int)), .is (.int .i64 ((k : Int) + 1)), .is (.slice (some ad) (k + 1) c),
                .is (.string ⟨(l.take (k + 1)).toArray⟩), .is (.bool !(vput X == l.take (k + 1)))] [some 43, some 44, some 45, some 46, some 47, some 48, some 49, some 50, some 51] (by kernel_rfl) (by kernel_rfl) (by kernel_rfl) rfl ⟨?_, ?_, ?_, ?_, ?_, ?_, ?_, ?_, ?_, trivial⟩ ?_
              · intro ρ w1 hb1 H
                exact gives_move rfl (H.old 6 _ (by kernel_rfl) rfl) ⟨rfl, Below.refl _ _⟩
              · intro ρ w1 hb1 H
                have e0 : ρ (.tmp 43) = .int .u64 (X : Int) := H.new 43 0 (by kernel_rfl)
                refine gives_call rfl ent11 (H.func _) (args := #[.slice none 0 0, .int .u64 (X : Int)]) (by simp [H.const, e0]) ?_
                refine (rput_any none 0 0 (X : Int) [] _ (by simp) rfl (by omega) Lies.nil (by omega) hXb).mono fun e w2 h => ?_
                exact h.isB
              · intro ρ w1 hb1 H
                obtain ⟨A1, c1, e1, h1, h2, h3, h4⟩ : IsB (vput X) (ρ (.tmp 44)) w1 := H.new 44 1 (by kernel_rfl)
                exact gives_convert rfl e1 (run_text w1 _ _ _ Try.underlying22 Try.underlying5 Try.underlying9 A1 _ c1 _ rfl h4) ⟨rfl, Below.refl _ _⟩
              · intro ρ w1 hb1 H
                exact gives_move rfl (H.old 0 _ (by kernel_rfl) rfl) ⟨rfl, Below.refl _ _⟩
              · intro ρ w1 hb1 H
                exact gives_move rfl (H.old 5 _ (by kernel_rfl) rfl) ⟨rfl, Below.refl _ _⟩
              · intro ρ w1 hb1 H
                exact gives_add rfl (H.new 47 4 (by kernel_rfl)) (H.const _) (by omega) (by omega) ⟨rfl, Below.refl _ _⟩
              · intro ρ w1 hb1 H
                exact gives_upto elemB rfl (H.new 46 3 (by kernel_rfl)) (h := k + 1) (H.new 48 5 (by kernel_rfl)) (by omega) ⟨rfl, Below.refl _ _⟩
              · intro ρ w1 hb1 H
                exact gives_convert rfl (H.new 49 6 (by kernel_rfl)) (run_text w1 _ _ _ Try.underlying22 Try.underlying5 Try.underlying9 _ _ _ _ htl (hlt.below hb1)) ⟨rfl, Below.refl _ _⟩
              · intro ρ w1 hb1 H
                exact gives_textne rfl (H.new 45 2 (by kernel_rfl)) (H.new 50 7 (by kernel_rfl)) ⟨rfl, Below.refl _ _⟩
              · intro vs w1 hb1 hfs
                have f8 : vs 8 = .bool !(vput X == l.take (k + 1)) := hfs 8 (by decide)
                clear hfs
                generalize vs 0 = v0 at *; generalize vs 1 = v1 at *; generalize vs 2 = v2 at *; generalize vs 3 = v3 at *; generalize vs 4 = v4 at *; generalize vs 5 = v5 at *; generalize vs 6 = v6 at *; generalize vs 7 = v7 at *
                by_cases he : vput X = l.take (k + 1)
                · have hb8 : (vput X == l.take (k + 1)) = true := by simpa using he
                  rw [hb8] at f8
                  have HE : Hid (vtake l = some (X, l.drop (k + 1))) := by
                    show vtake l = _
                    have h2 := HX.out
                    rw [List.drop_zero] at h2
                    have h1 := vtake_same (l := l) (n := k) (by rw [← h2]; exact he)
                    rw [h1, ← h2]
                  simp only [putAll, f8, Bool.not_true, Act.put, List.setIfInBounds_toArray, List.set_cons_succ, List.set_cons_zero]
                  clear he hb8 f8
                  have hz1 := hb1.size
                  have hbb : Below w.heap.size w (w1.alloc (.cells #[] 5)) := hb1.alloc hb1.size _
                  have hown0 : (w1.alloc (.cells #[] 5)).ownsRow w.heap.size 5 1 (.slice (some ⟨w1.heap.size, 0, none⟩) 0 0) 0 [] := World.ownsRow_made w1 #[] 0 hb1.size (by unfold maxLen; omega) (by simp)
                  have hdl : ((l.drop (k + 1)).map bv).length = n - (k + 1) := by rw [List.length_map, List.length_drop, hn]
                  have hlk : Lies (w1.alloc (.cells #[] 5)) (some ⟨ad.block, ad.off + (k + 1), none⟩) ((l.drop (k + 1)).map bv) := by rw [List.map_drop]; exact (hl.drop_some k).below hbb
                  have hzz : w.heap.size ≤ (w1.alloc (.cells #[] 5)).heap.size := by simp; omega
                  have HF : Hid (∀ (v : Value) (w2 : World), w2.ownsRow w.heap.size 5 1 v (n - (k + 1)) ((l.drop (k + 1)).map bv) → Below w.heap.size w w2 →
                      RetT .u64 w ((vtake l).map fun p => ((p.1 : Int), p.2)) (.returned (.tuple #[.int .u64 (X : Int), v, .int .i64 0])) w2) := by
                    show ∀ (v : Value) (w2 : World), _
                    intro v w2 hown hb
                    obtain ⟨B, c', hB, h2, h3, h4, h5, h6⟩ := ret_own (w0 := w) hown hb
                    injection hB with hB
                    subst hB
                    rw [HE.out]
                    exact ⟨B, c', rfl, h2, h3, h4, h5, h6⟩
                  by_cases hck : c = k + 1
                  · obtain rfl : n = k + 1 := by omega
                    have hd0 : (l.drop (k + 1)).map bv = [] := List.eq_nil_of_length_eq_zero (by omega)
                    have HD := Lib.hid hd0
                    clear hd0 hdl
                    go_wp2_with (at_builtin; refine wpList_join elemB rfl _ _ rfl w.heap.size _ _ _ _ _ _ [] w rfl rfl (by simp) (by simp) Lies.nil (by simp) hown0 hbb hzz (by omega) (by omega) ?_)
                    intro vv w2 hown2 hb2 _ _
                    go_wp2
                    go_ret3
                    exact HF.out vv w2 (by rw [HD.out]; simpa using hown2) hb2
                  · go_wp2_with (at_builtin; refine wpList_join elemB rfl _ _ rfl w.heap.size _ _ _ _ _ _ ((l.drop (k + 1)).map bv) w rfl rfl (by simp) hdl hlk (bv_one _) hown0 hbb hzz (by omega) (by omega) ?_)
                    intro vv w2 hown2 hb2 _ _
                    go_wp2
                    go_ret3
                    exact HF.out vv w2 (by simpa using hown2) hb2
                · have hb8 : (vput X == l.take (k + 1)) = false := by simpa using he
                  rw [hb8] at f8
                  have HE : Hid (vtake l = none) := by
                    show vtake l = none
                    refine vtake_other HS.out ?_
                    have h2 := HX.out
                    rw [List.drop_zero] at h2
                    rw [← h2]
                    exact he
                  simp only [putAll, f8, Bool.not_false, Act.put, List.setIfInBounds_toArray, List.set_cons_succ, List.set_cons_zero]
                  clear he hb8 f8
                  go_wp2
                  go_ret3
                  rw [HE.out]
                  exact ⟨rfl, hb1⟩
            · obtain ⟨m, rfl⟩ : ∃ j, m = j + 1 := ⟨m - 1, by omega⟩
              have hcut := vsum_cut l k m (by omega) (by omega)
              rw [← hX] at hcut
              obtain ⟨ad', had, _, hc'⟩ := hl.cell (k := m) (by rw [List.length_map]; omega)
              injection had with had
              subst had
              obtain ⟨b', hb'⟩ : ∃ b' : Nat, b' = (l[m]'(by omega)).toNat := ⟨_, rfl⟩
              have hcb' : w.cell? (ad.add m) = some (.int .u8 (b' : Int)) := by rw [hc', List.getElem_map, hb']; rfl
              have hb256' : b' < 256 := by rw [hb']; exact UInt8.toNat_lt _
              rw [← hb'] at hcut
              have HC := Lib.hid hcut
              clear hcut hX hc' hb' hcb
              have hmn : (m : Int) < (n : Int) := by omega
              have hmi : ((m + 1 : Nat) : Int) - 1 = (m : Int) := by omega
              rw [hmi]
              go_wp2
              go_round
              case rel =>
                refine ⟨m, rfl, by omega, ?_⟩
                have h3 := HC.out
                rw [← h3]
                congr 1
              case measure => simp [intOf]
      · have g1 : ¬ (k : Int) < (n : Int) := by omega
        have HE := Lib.hid (vtake_short HS.out (by omega))
        go_wp2
        go_ret3
        rw [HE.out]
        exact ⟨rfl, Below.refl _ _⟩
end Go.Proofs.Ytljnklmmldeokaa
