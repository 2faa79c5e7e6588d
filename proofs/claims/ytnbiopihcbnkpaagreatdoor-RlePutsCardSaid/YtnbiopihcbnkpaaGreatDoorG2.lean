/- Texts that the claims of this seat share, part 2: RTake BTake Put Int BUnp DPlain BRPack TPlain DRef PPlain PTPlain VIs BRUnp TRef UPlain DRPut MulS Arr RegR OwnV Wide WRow. -/
import Derived.Deep.RegionWith
import Derived.Deep.RegionLaw
import Derived.BigGuardPart
import Derived.Deep.DeepMust
import Derived.Shelf.Bits.Mul64
import Derived.Test.YtnbiopihcbnkpaaGreatDoorProg
import Derived.Deep.WholeRow
import Derived.Test.YtnbiopihcbnkpaaGreatDoorG1
/- The contract of the reference's Take. -/











namespace Go.Proofs.YtnbiopihcbnkpaaGreatDoor

open Go.RowKit

theorem ent11 (args : Array Value) (w : World) : (callFunc 92 args).run Tryz.prog w = .ok (.enter 92 args) w := by kernel_rfl

def RTakeRel (l : List UInt8) (i : Value) : Prop :=
  ∃ k : Nat, i = .int .i64 (k : Int) ∧ k ≤ 9 ∧ k ≤ l.length ∧ ∀ j (h : j < l.length), j < k → 128 ≤ l[j].toNat

def RTakeRel2 (l : List UInt8) (n : Nat) (x i : Value) : Prop :=
  ∃ m : Nat, i = .int .i64 ((m : Int) - 1) ∧ m ≤ n + 1 ∧ x = .int .u64 ((vsum ((l.take (n + 1)).drop m) % 18446744073709551616 : Nat) : Int)

theorem vsum_cut (l : List UInt8) (n m : Nat) (h : m < n + 1) (hl : n < l.length) :
    (128 * (vsum ((l.take (n + 1)).drop (m + 1)) % 18446744073709551616) % 18446744073709551616 + (l[m]'(by omega)).toNat % 128) % 18446744073709551616 = vsum ((l.take (n + 1)).drop m) % 18446744073709551616 := by
  have hm : m < (l.take (n + 1)).length := by rw [List.length_take]; omega
  rw [List.drop_eq_getElem_cons hm, vsum, List.getElem_take]
  omega

set_option maxHeartbeats 1000000 in
set_option maxRecDepth 100000 in
theorem rtake_any (A : Option Addr) (n c : Nat) (l : List UInt8) (w : World) (hA : A = none → n = 0) (hn : l.length = n) (hnc : n ≤ c) (hnb : n ≤ 1000000) (hl : Lies w A (l.map bv)) :
    Calls Tryz.prog 132 #[.slice A n c] w (RetT .u64 w ((vtake l).map fun p => ((p.1 : Int), p.2))) := by
  go_enter Tryz.func132, Tryz.ntmps132
  go_wp2
  go_loop [5] (RTakeRel l) (fun i => 10 - (intOf i).toNat)
  case atStart => exact ⟨0, rfl, by omega, by omega, by omega⟩
  case round =>
    obtain ⟨k, rfl, hk, hkl, hhi⟩ := hrel
    have HH := Lib.hid hhi
    clear hhi
    by_cases hgo : ∃ h : k < l.length, k < 9 ∧ 128 ≤ l[k].toNat
    · obtain ⟨hk1, hk2, hk3⟩ := hgo
      obtain ⟨ad, rfl, _, hc⟩ := hl.cell (k := k) (by rw [List.length_map]; omega)
      obtain ⟨b, hb⟩ : ∃ b : Nat, b = (l[k]'(by omega)).toNat := ⟨_, rfl⟩
      have hcb : w.cell? (ad.add k) = some (.int .u8 (b : Int)) := by rw [hc, List.getElem_map, hb]; rfl
      rw [← hb] at hk3
      have HB := Lib.hid hb
      clear hb hc
      rw [hn] at hk1
      have g1 : (k : Int) < (n : Int) := by omega
      have g2 : (k : Int) < 9 := by omega
      have g3 : (128 : Int) ≤ (b : Int) := by omega
      go_wp2
      go_round
      case rel =>
        refine ⟨k + 1, by go_num, by omega, by omega, ?_⟩
        intro j hj hjk
        by_cases hjk' : j = k
        · subst hjk'; rw [← HB.out]; omega
        · exact HH.out j hj (by omega)
      case measure => simp [intOf]; omega
    · have hst : vstops l k := by
        refine ⟨hk, hkl, HH.out, ?_⟩
        by_cases h9 : k = 9
        · exact .inl h9
        · refine .inr fun h => ?_
          by_cases h128 : 128 ≤ l[k].toNat
          · exact absurd ⟨h, by omega, h128⟩ hgo
          · omega
      have HS := Lib.hid hst
      clear hst hgo
      by_cases hkn : k < n
      · obtain ⟨ad, rfl, _, hc⟩ := hl.cell (k := k) (by rw [List.length_map]; omega)
        obtain ⟨b, hb⟩ : ∃ b : Nat, b = (l[k]'(by omega)).toNat := ⟨_, rfl⟩
        have hcb : w.cell? (ad.add k) = some (.int .u8 (b : Int)) := by rw [hc, List.getElem_map, hb]; rfl
        have hb256 : b < 256 := by rw [hb]; exact UInt8.toNat_lt _
        have HB := Lib.hid hb
        clear hc hb
        have g1 : (k : Int) < (n : Int) := by omega
        by_cases h9 : k = 9
        · have g2 : ¬ (k : Int) < 9 := by omega
          have H9 := Lib.hid h9
          clear h9
          go_wp2
          go_loop [6, 7] (RTakeRel2 l k) (fun _ i => (intOf i + 1).toNat)
          case atStart => exact ⟨k + 1, by go_num, by omega, by simp [vsum]⟩
          case round =>
            obtain ⟨m, rfl, hm, rfl⟩ := hrel
            obtain ⟨X, hX⟩ : ∃ X : Nat, X = vsum (List.drop m (List.take (k + 1) l)) % 18446744073709551616 := ⟨_, rfl⟩
            rw [← hX]
            have hXb : (X : Int) < 18446744073709551616 := by omega
            by_cases hm0 : m = 0
            · subst hm0
              have HX := Lib.hid hX
              clear hX
              have hlt : Lies w (some ad) ((l.take (k + 1)).map bv) := by rw [List.map_take]; exact hl.take _
              have htl : (l.take (k + 1)).length = k + 1 := by rw [List.length_take]; omega
              go_wp2
              refine wp_region_list [.is (.int .u64 (X : Int)), .bytes (vput X), .is (.string ⟨(vput X).toArray⟩), .is (.slice (some ad) n c), .is (.int .i64 (k : Int)), .is (.int .i64 ((k : Int) + 1)), .is (.slice (some ad) (k + 1) c),
                .is (.string ⟨(l.take (k + 1)).toArray⟩), .is (.bool !(vput X == l.take (k + 1)))] [some 43, some 44, some 45, some 46, some 47, some 48, some 49, some 50, some 51] (by kernel_rfl) (by kernel_rfl) (by kernel_rfl) rfl ⟨?_, ?_, ?_, ?_, ?_, ?_, ?_, ?_, ?_, trivial⟩ ?_
              · intro ρ w1 hb1 H
                exact gives_move rfl (H.old 6 _ (by kernel_rfl) rfl) ⟨rfl, Below.refl _ _⟩
              · intro ρ w1 hb1 H
                have e0 : ρ (.tmp 43) = .int .u64 (X : Int) := H.new 43 0 (by kernel_rfl)
                refine gives_call rfl ent11 (H.func _) (args := #[.slice none 0 0, .int .u64 (X : Int)]) (by simp [H.const, e0]) ?_
                refine (rput_any none 0 0 (X : Int) [] _ (by simp) rfl (by omega) Lies.nil (by omega) hXb).mono fun e w2 h => ?_
                exact h.isB
              · intro ρ w1 hb1 H
                obtain ⟨A1, c1, e1, h1, h2, h3, h4⟩ : IsB (vput X) (ρ (.tmp 44)) w1 := H.new 44 1 (by kernel_rfl)
                exact gives_convert rfl e1 (run_text w1 _ _ _ Tryz.underlying25 Tryz.underlying5 Tryz.underlying9 A1 _ c1 _ rfl h4) ⟨rfl, Below.refl _ _⟩
              · intro ρ w1 hb1 H
                exact gives_move rfl (H.old 0 _ (by kernel_rfl) rfl) ⟨rfl, Below.refl _ _⟩
              · intro ρ w1 hb1 H
                exact gives_move rfl (H.old 5 _ (by kernel_rfl) rfl) ⟨rfl, Below.refl _ _⟩
              · intro ρ w1 hb1 H
                exact gives_add rfl (H.new 47 4 (by kernel_rfl)) (H.const _) (by omega) (by omega) ⟨rfl, Below.refl _ _⟩
              · intro ρ w1 hb1 H
                exact gives_upto elemB rfl (H.new 46 3 (by kernel_rfl)) (h := k + 1) (H.new 48 5 (by kernel_rfl)) (by omega) ⟨rfl, Below.refl _ _⟩
              · intro ρ w1 hb1 H
                exact gives_convert rfl (H.new 49 6 (by kernel_rfl)) (run_text w1 _ _ _ Tryz.underlying25 Tryz.underlying5 Tryz.underlying9 _ _ _ _ htl (hlt.below hb1)) ⟨rfl, Below.refl _ _⟩
              · intro ρ w1 hb1 H
                exact gives_textne rfl (H.new 45 2 (by kernel_rfl)) (H.new 50 7 (by kernel_rfl)) ⟨rfl, Below.refl _ _⟩
              · intro vs w1 hb1 hfs
                have f8 : vs 8 = .bool !(vput X == l.take (k + 1)) := hfs 8 (by decide)
                clear hfs
                generalize vs 0 = v0 at *; generalize vs 1 = v1 at *; generalize vs 2 = v2 at *; generalize vs 3 = v3 at *; generalize vs 4 = v4 at *; generalize vs 5 = v5 at *; generalize vs 6 = v6 at *; generalize vs 7 = v7 at *
                by_cases he : vput X = l.take (k + 1)
                · have hb8 : (vput X == l.take (k + 1)) = true := by simpa using he
                  rw [hb8] at f8
                  have HE : Hid (vtake l = some (X, l.drop (k + 1))) := by
                    show vtake l = _
                    have h2 := HX.out
                    rw [List.drop_zero] at h2
                    have h1 := vtake_same (l := l) (n := k) (by rw [← h2]; exact he)
                    rw [h1, ← h2]
                  simp only [putAll, f8, Bool.not_true, Act.put, List.setIfInBounds_toArray, List.set_cons_succ, List.set_cons_zero]
                  clear he hb8 f8
                  have hz1 := hb1.size
                  have hbb : Below w.heap.size w (w1.alloc (.cells #[] 5)) := hb1.alloc hb1.size _
                  have hown0 : (w1.alloc (.cells #[] 5)).ownsRow w.heap.size 5 1 (.slice (some ⟨w1.heap.size, 0, none⟩) 0 0) 0 [] := World.ownsRow_made w1 #[] 0 hb1.size (by unfold maxLen; omega) (by simp)
                  have hdl : ((l.drop (k + 1)).map bv).length = n - (k + 1) := by rw [List.length_map, List.length_drop, hn]
                  have hlk : Lies (w1.alloc (.cells #[] 5)) (some ⟨ad.block, ad.off + (k + 1), none⟩) ((l.drop (k + 1)).map bv) := by rw [List.map_drop]; exact (hl.drop_some k).below hbb
                  have hzz : w.heap.size ≤ (w1.alloc (.cells #[] 5)).heap.size := by simp; omega
                  have HF : Hid (∀ (v : Value) (w2 : World), w2.ownsRow w.heap.size 5 1 v (n - (k + 1)) ((l.drop (k + 1)).map bv) → Below w.heap.size w w2 →
                      RetT .u64 w ((vtake l).map fun p => ((p.1 : Int), p.2)) (.returned (.tuple #[.int .u64 (X : Int), v, .int .i64 0])) w2) := by
                    show ∀ (v : Value) (w2 : World), _
                    intro v w2 hown hb
                    obtain ⟨B, c', hB, h2, h3, h4, _, h6⟩ := ret_own (w0 := w) hown hb
                    injection hB with hB
                    subst hB
                    rw [HE.out]
                    exact ⟨B, c', rfl, h2, h3, h4, ⟨_, hown⟩, h6⟩
                  by_cases hck : c = k + 1
                  · obtain rfl : n = k + 1 := by omega
                    have hd0 : (l.drop (k + 1)).map bv = [] := List.eq_nil_of_length_eq_zero (by omega)
                    have HD := Lib.hid hd0
                    clear hd0 hdl
                    go_wp2_with (at_builtin; refine wpList_join elemB rfl _ _ rfl w.heap.size _ _ _ _ _ _ [] w rfl rfl (by simp) (by simp) Lies.nil (by simp) hown0 hbb hzz (by omega) (by omega) ?_)
                    intro vv w2 hown2 hb2 _ _
                    go_wp2
                    go_ret3
                    exact HF.out vv w2 (by rw [HD.out]; simpa using hown2) hb2
                  · go_wp2_with (at_builtin; refine wpList_join elemB rfl _ _ rfl w.heap.size _ _ _ _ _ _ ((l.drop (k + 1)).map bv) w rfl rfl (by simp) hdl hlk (bv_one _) hown0 hbb hzz (by omega) (by omega) ?_)
                    intro vv w2 hown2 hb2 _ _
                    go_wp2
                    go_ret3
                    exact HF.out vv w2 (by simpa using hown2) hb2
                · have hb8 : (vput X == l.take (k + 1)) = false := by simpa using he
                  rw [hb8] at f8
                  have HE : Hid (vtake l = none) := by
                    show vtake l = none
                    refine vtake_other HS.out ?_
                    have h2 := HX.out
                    rw [List.drop_zero] at h2
                    rw [← h2]
                    exact he
                  simp only [putAll, f8, Bool.not_false, Act.put, List.setIfInBounds_toArray, List.set_cons_succ, List.set_cons_zero]
                  clear he hb8 f8
                  go_wp2
                  go_ret3
                  rw [HE.out]
                  exact ⟨rfl, hb1⟩
            · obtain ⟨m, rfl⟩ : ∃ j, m = j + 1 := ⟨m - 1, by omega⟩
              have hcut := vsum_cut l k m (by omega) (by omega)
              rw [← hX] at hcut
              obtain ⟨ad', had, _, hc'⟩ := hl.cell (k := m) (by rw [List.length_map]; omega)
              injection had with had
              subst had
              obtain ⟨b', hb'⟩ : ∃ b' : Nat, b' = (l[m]'(by omega)).toNat := ⟨_, rfl⟩
              have hcb' : w.cell? (ad.add m) = some (.int .u8 (b' : Int)) := by rw [hc', List.getElem_map, hb']; rfl
              have hb256' : b' < 256 := by rw [hb']; exact UInt8.toNat_lt _
              rw [← hb'] at hcut
              have HC := Lib.hid hcut
              clear hcut hX hc' hb' hcb
              have hmn : (m : Int) < (n : Int) := by omega
              have hmi : ((m + 1 : Nat) : Int) - 1 = (m : Int) := by omega
              rw [hmi]
              go_wp2
              go_round
              case rel =>
                refine ⟨m, rfl, by omega, ?_⟩
                have h3 := HC.out
                rw [← h3]
                congr 1
              case measure => simp [intOf]
        · have g3 : (b : Int) < 128 := by
            rcases HS.out.2.2.2 with h | h
            · omega
            · have := h (by omega); rw [← HB.out] at this; omega
          have g2 : (k : Int) < 9 := by omega
          go_wp2
          go_loop [6, 7] (RTakeRel2 l k) (fun _ i => (intOf i + 1).toNat)
          case atStart => exact ⟨k + 1, by go_num, by omega, by simp [vsum]⟩
          case round =>
            obtain ⟨m, rfl, hm, rfl⟩ := hrel
            obtain ⟨X, hX⟩ : ∃ X : Nat, X = vsum (List.drop m (List.take (k + 1) l)) % 18446744073709551616 := ⟨_, rfl⟩
            rw [← hX]
            have hXb : (X : Int) < 18446744073709551616 := by omega
            by_cases hm0 : m = 0
            · subst hm0
              have HX := Lib.hid hX
              clear hX
              have hlt : Lies w (some ad) ((l.take (k + 1)).map bv) := by rw [List.map_take]; exact hl.take _
              have htl : (l.take (k + 1)).length = k + 1 := by rw [List.length_take]; omega
              go_wp2
              refine wp_region_list [.is (.int .u64 (X : Int)), .bytes (vput X), .is (.string ⟨(vput X).toArray⟩), .is (.slice (some ad) n c), .is (.int .i64 (k : Int)), .is (.int .i64 ((k : Int) + 1)), .is (.slice (some ad) (k + 1) c),
                .is (.string ⟨(l.take (k + 1)).toArray⟩), .is (.bool !(vput X == l.take (k + 1)))] [some 43, some 44, some 45, some 46, some 47, some 48, some 49, some 50, some 51] (by kernel_rfl) (by kernel_rfl) (by kernel_rfl) rfl ⟨?_, ?_, ?_, ?_, ?_, ?_, ?_, ?_, ?_, trivial⟩ ?_
              · intro ρ w1 hb1 H
                exact gives_move rfl (H.old 6 _ (by kernel_rfl) rfl) ⟨rfl, Below.refl _ _⟩
              · intro ρ w1 hb1 H
                have e0 : ρ (.tmp 43) = .int .u64 (X : Int) := H.new 43 0 (by kernel_rfl)
                refine gives_call rfl ent11 (H.func _) (args := #[.slice none 0 0, .int .u64 (X : Int)]) (by simp [H.const, e0]) ?_
                refine (rput_any none 0 0 (X : Int) [] _ (by simp) rfl (by omega) Lies.nil (by omega) hXb).mono fun e w2 h => ?_
                exact h.isB
              · intro ρ w1 hb1 H
                obtain ⟨A1, c1, e1, h1, h2, h3, h4⟩ : IsB (vput X) (ρ (.tmp 44)) w1 := H.new 44 1 (by kernel_rfl)
                exact gives_convert rfl e1 (run_text w1 _ _ _ Tryz.underlying25 Tryz.underlying5 Tryz.underlying9 A1 _ c1 _ rfl h4) ⟨rfl, Below.refl _ _⟩
              · intro ρ w1 hb1 H
                exact gives_move rfl (H.old 0 _ (by kernel_rfl) rfl) ⟨rfl, Below.refl _ _⟩
              · intro ρ w1 hb1 H
                exact gives_move rfl (H.old 5 _ (by kernel_rfl) rfl) ⟨rfl, Below.refl _ _⟩
              · intro ρ w1 hb1 H
                exact gives_add rfl (H.new 47 4 (by kernel_rfl)) (H.const _) (by omega) (by omega) ⟨rfl, Below.refl _ _⟩
              · intro ρ w1 hb1 H
                exact gives_upto elemB rfl (H.new 46 3 (by kernel_rfl)) (h := k + 1) (H.new 48 5 (by kernel_rfl)) (by omega) ⟨rfl, Below.refl _ _⟩
              · intro ρ w1 hb1 H
                exact gives_convert rfl (H.new 49 6 (by kernel_rfl)) (run_text w1 _ _ _ Tryz.underlying25 Tryz.underlying5 Tryz.underlying9 _ _ _ _ htl (hlt.below hb1)) ⟨rfl, Below.refl _ _⟩
              · intro ρ w1 hb1 H
                exact gives_textne rfl (H.new 45 2 (by kernel_rfl)) (H.new 50 7 (by kernel_rfl)) ⟨rfl, Below.refl _ _⟩
              · intro vs w1 hb1 hfs
                have f8 : vs 8 = .bool !(vput X == l.take (k + 1)) := hfs 8 (by decide)
                clear hfs
                generalize vs 0 = v0 at *; generalize vs 1 = v1 at *; generalize vs 2 = v2 at *; generalize vs 3 = v3 at *; generalize vs 4 = v4 at *; generalize vs 5 = v5 at *; generalize vs 6 = v6 at *; generalize vs 7 = v7 at *
                by_cases he : vput X = l.take (k + 1)
                · have hb8 : (vput X == l.take (k + 1)) = true := by simpa using he
                  rw [hb8] at f8
                  have HE : Hid (vtake l = some (X, l.drop (k + 1))) := by
                    show vtake l = _
                    have h2 := HX.out
                    rw [List.drop_zero] at h2
                    have h1 := vtake_same (l := l) (n := k) (by rw [← h2]; exact he)
                    rw [h1, ← h2]
                  simp only [putAll, f8, Bool.not_true, Act.put, List.setIfInBounds_toArray, List.set_cons_succ, List.set_cons_zero]
                  clear he hb8 f8
                  have hz1 := hb1.size
                  have hbb : Below w.heap.size w (w1.alloc (.cells #[] 5)) := hb1.alloc hb1.size _
                  have hown0 : (w1.alloc (.cells #[] 5)).ownsRow w.heap.size 5 1 (.slice (some ⟨w1.heap.size, 0, none⟩) 0 0) 0 [] := World.ownsRow_made w1 #[] 0 hb1.size (by unfold maxLen; omega) (by simp)
                  have hdl : ((l.drop (k + 1)).map bv).length = n - (k + 1) := by rw [List.length_map, List.length_drop, hn]
                  have hlk : Lies (w1.alloc (.cells #[] 5)) (some ⟨ad.block, ad.off + (k + 1), none⟩) ((l.drop (k + 1)).map bv) := by rw [List.map_drop]; exact (hl.drop_some k).below hbb
                  have hzz : w.heap.size ≤ (w1.alloc (.cells #[] 5)).heap.size := by simp; omega
                  have HF : Hid (∀ (v : Value) (w2 : World), w2.ownsRow w.heap.size 5 1 v (n - (k + 1)) ((l.drop (k + 1)).map bv) → Below w.heap.size w w2 →
                      RetT .u64 w ((vtake l).map fun p => ((p.1 : Int), p.2)) (.returned (.tuple #[.int .u64 (X : Int), v, .int .i64 0])) w2) := by
                    show ∀ (v : Value) (w2 : World), _
                    intro v w2 hown hb
                    obtain ⟨B, c', hB, h2, h3, h4, _, h6⟩ := ret_own (w0 := w) hown hb
                    injection hB with hB
                    subst hB
                    rw [HE.out]
                    exact ⟨B, c', rfl, h2, h3, h4, ⟨_, hown⟩, h6⟩
                  by_cases hck : c = k + 1
                  · obtain rfl : n = k + 1 := by omega
                    have hd0 : (l.drop (k + 1)).map bv = [] := List.eq_nil_of_length_eq_zero (by omega)
                    have HD := Lib.hid hd0
                    clear hd0 hdl
                    go_wp2_with (at_builtin; refine wpList_join elemB rfl _ _ rfl w.heap.size _ _ _ _ _ _ [] w rfl rfl (by simp) (by simp) Lies.nil (by simp) hown0 hbb hzz (by omega) (by omega) ?_)
                    intro vv w2 hown2 hb2 _ _
                    go_wp2
                    go_ret3
                    exact HF.out vv w2 (by rw [HD.out]; simpa using hown2) hb2
                  · go_wp2_with (at_builtin; refine wpList_join elemB rfl _ _ rfl w.heap.size _ _ _ _ _ _ ((l.drop (k + 1)).map bv) w rfl rfl (by simp) hdl hlk (bv_one _) hown0 hbb hzz (by omega) (by omega) ?_)
                    intro vv w2 hown2 hb2 _ _
                    go_wp2
                    go_ret3
                    exact HF.out vv w2 (by simpa using hown2) hb2
                · have hb8 : (vput X == l.take (k + 1)) = false := by simpa using he
                  rw [hb8] at f8
                  have HE : Hid (vtake l = none) := by
                    show vtake l = none
                    refine vtake_other HS.out ?_
                    have h2 := HX.out
                    rw [List.drop_zero] at h2
                    rw [← h2]
                    exact he
                  simp only [putAll, f8, Bool.not_false, Act.put, List.setIfInBounds_toArray, List.set_cons_succ, List.set_cons_zero]
                  clear he hb8 f8
                  go_wp2
                  go_ret3
                  rw [HE.out]
                  exact ⟨rfl, hb1⟩
            · obtain ⟨m, rfl⟩ : ∃ j, m = j + 1 := ⟨m - 1, by omega⟩
              have hcut := vsum_cut l k m (by omega) (by omega)
              rw [← hX] at hcut
              obtain ⟨ad', had, _, hc'⟩ := hl.cell (k := m) (by rw [List.length_map]; omega)
              injection had with had
              subst had
              obtain ⟨b', hb'⟩ : ∃ b' : Nat, b' = (l[m]'(by omega)).toNat := ⟨_, rfl⟩
              have hcb' : w.cell? (ad.add m) = some (.int .u8 (b' : Int)) := by rw [hc', List.getElem_map, hb']; rfl
              have hb256' : b' < 256 := by rw [hb']; exact UInt8.toNat_lt _
              rw [← hb'] at hcut
              have HC := Lib.hid hcut
              clear hcut hX hc' hb' hcb
              have hmn : (m : Int) < (n : Int) := by omega
              have hmi : ((m + 1 : Nat) : Int) - 1 = (m : Int) := by omega
              rw [hmi]
              go_wp2
              go_round
              case rel =>
                refine ⟨m, rfl, by omega, ?_⟩
                have h3 := HC.out
                rw [← h3]
                congr 1
              case measure => simp [intOf]
      · have g1 : ¬ (k : Int) < (n : Int) := by omega
        have HE := Lib.hid (vtake_short HS.out (by omega))
        go_wp2
        go_ret3
        rw [HE.out]
        exact ⟨rfl, Below.refl _ _⟩
end Go.Proofs.YtnbiopihcbnkpaaGreatDoor

/- The contract of what taker hands out, of taker itself, and of Unpack. -/



namespace Go.Proofs.YtnbiopihcbnkpaaGreatDoor

open Go.RowKit

/-- What a taker holds: the slice of the bytes in block b, the bit that comes next in block a; the bytes lie in older memory. -/
structure Taker (z b a m c t : Nat) (A : Option Addr) (l : List UInt8) (w : World) : Prop where
  zb : z ≤ b
  ba : b < a
  len : l.length = m
  old : ∃ w0, Lies w0 A (l.map bv) ∧ w0.heap.size ≤ z ∧ Below w0.heap.size w0 w
  box : Row w b 25 [.slice A m c]
  pos : Row w a 3 [.int .i64 (t : Int)]
theorem Taker.drewN {z b a m c t : Nat} {A : Option Addr} {l : List UInt8} {w : World} (h : Taker z b a m c t A l w) (n : Nat) : Taker z b a m c t A l (w.drewN n) :=
  ⟨h.zb, h.ba, h.len, h.old.elim fun w0 ⟨h1, h2, h3⟩ => ⟨w0, h1, h2, below_drewN h3 n⟩, h.box, h.pos⟩
theorem Taker.lies {z b a m c t : Nat} {A : Option Addr} {l : List UInt8} {w : World} (h : Taker z b a m c t A l w) : Lies w A (l.map bv) :=
  h.old.elim fun _ ⟨h1, _, h3⟩ => h1.below h3
theorem Taker.step {z b a m c t : Nat} {A : Option Addr} {l : List UInt8} {w : World} (h : Taker z b a m c t A l w) (t' : Nat) : Taker z b a m c t' A l (w.setCell ⟨a, 0, none⟩ (.int .i64 (t' : Int))) := by
  refine ⟨h.zb, h.ba, h.len, ?_, ?_, h.pos.set_ 0 _⟩
  · obtain ⟨w0, h1, h2, h3⟩ := h.old
    have := h.ba
    have := h.zb
    exact ⟨w0, h1, h2, h3.setCell (show w0.heap.size ≤ a by omega) _⟩
  · exact Row.far h.box (show b ≠ a by have := h.ba; omega) _
theorem Taker.far {z b a m c t : Nat} {A : Option Addr} {l : List UInt8} {w : World} (h : Taker z b a m c t A l w) {g : Nat} (hg : z ≤ g) (hgb : g < b) (k : Nat) (u : Value) : Taker z b a m c t A l (w.setCell ⟨g, k, none⟩ u) := by
  have := h.ba
  refine ⟨h.zb, h.ba, h.len, ?_, Row.far h.box (show b ≠ g by omega) _, Row.far h.pos (show a ≠ g by omega) _⟩
  obtain ⟨w0, h1, h2, h3⟩ := h.old
  exact ⟨w0, h1, h2, h3.setCell (show w0.heap.size ≤ g by omega) _⟩
def TakeRel1 (z b a m c t W : Nat) (A : Option Addr) (l : List UInt8) (w : World) (v x : Value) (wr : World) : Prop :=
  ∃ k : Nat, v = .int .i64 (k : Int) ∧ k ≤ W ∧ x = .int .u64 ((btake (bval l) (8 * m) t (W - k) : Nat) : Int) ∧ Taker z b a m c (t + W - k) A l wr ∧ Below a w wr
def TakePost (z b a m c t W : Nat) (A : Option Addr) (l : List UInt8) (w : World) (e : Ending) (w' : World) : Prop :=
  e = .returned (.int .u64 ((btake (bval l) (8 * m) t W : Nat) : Int)) ∧ Taker z b a m c (t + W) A l w' ∧ Below a w w'

set_option maxHeartbeats 1000000 in
set_option maxRecDepth 100000 in
theorem take1_any (z b a m c t W : Nat) (A : Option Addr) (l : List UInt8) (w : World) (hp : Taker z b a m c t A l w) (hW : W ≤ 64) (ht : t + W ≤ 8 * m) (hm : m ≤ 100000) :
    Calls Tryz.prog 140 #[.int .i64 (W : Int), .pointer (some ⟨a, 0, none⟩), .pointer (some ⟨b, 0, none⟩)] w (TakePost z b a m c t W A l w) := by
  go_enter Tryz.func140, Tryz.ntmps140
  go_wp2
  go_loopw [0, 5] (TakeRel1 z b a m c t W A l w) (fun v _ _ => (intOf v).toNat)
  case atStart => exact ⟨W, rfl, Nat.le_refl _, by rw [Nat.sub_self, btake_zero]; rfl, by rw [Nat.add_sub_cancel]; exact hp, Below.refl _ _⟩
  case round =>
    obtain ⟨k, rfl, hk, rfl, hP, hb⟩ := hrel
    obtain ⟨T, hT⟩ : ∃ T, T = t + W - k := ⟨_, rfl⟩
    rw [← hT] at hP
    obtain ⟨X, hX⟩ : ∃ X, X = btake (bval l) (8 * m) t (W - k) := ⟨_, rfl⟩
    rw [← hX]
    have HT := Lib.hid hT
    have HX := Lib.hid hX
    clear hT hX
    have hc1 := hP.pos.cell 0
    have hc2 := hP.box.cell 0
    have hf1 := hP.pos.free 0
    by_cases hk0 : 0 < k
    · have hT8 : T + k ≤ 8 * m := by have := HT.out; omega
      obtain ⟨r, hr⟩ : ∃ r, r = 8 - T % 8 := ⟨_, rfl⟩
      obtain ⟨n, hn⟩ : ∃ n, n = min r k := ⟨_, rfl⟩
      obtain ⟨j, hj⟩ : ∃ j, j = k - n := ⟨_, rfl⟩
      obtain ⟨d, hd⟩ : ∃ d, d = r - n := ⟨_, rfl⟩
      obtain ⟨q, hq⟩ : ∃ q, q = T / 8 := ⟨_, rfl⟩
      have hri : IntKind.i64.wrap (8 - (T : Int) % 8) = (r : Int) := by rw [IntKind.wrap_i64]; omega
      have hmin : ∀ (ts : Array TypeId) (t : TypeId) (W : World), (Builtin.min_ ts t #[.int .i64 (r : Int), .int .i64 (k : Int)]).run Tryz.prog W = .ok (.int .i64 (n : Int)) W := fun ts t W => by
        rw [run_min_int2]
        congr 2
        split <;> omega
      have hki : IntKind.i64.wrap ((k : Int) - (n : Int)) = (j : Int) := by rw [IntKind.wrap_i64]; omega
      have hdi : IntKind.i64.wrap ((r : Int) - (n : Int)) = (d : Int) := by rw [IntKind.wrap_i64]; omega
      have hwq : IntKind.i64.wrap (q : Int) = (q : Int) := by rw [IntKind.wrap_i64]; omega
      have hqi : (T : Int) / 8 = (q : Int) := by omega
      have hqm : (q : Int) < (m : Int) := by omega
      have hr8 : r ≤ 8 := by omega
      have hn8 : n ≤ 8 := by omega
      have hd8 : d ≤ 8 := by omega
      have hn0 : 0 < n := by omega
      have hnk : n ≤ k := by omega
      have hnr : n ≤ r := by omega
      obtain ⟨hql, htb⟩ := btake_at hq hr hd hP.len hnr hn0 (show T + n ≤ 8 * m by omega)
      have HR := Lib.hid hr
      have HJ := Lib.hid hj
      have HD := Lib.hid hd
      have HQ := Lib.hid hq
      clear hr hn hj hd hq
      obtain ⟨L, hL⟩ : ∃ L, L = 2 ^ n - 1 := ⟨_, rfl⟩
      have HL := Lib.hid hL
      obtain ⟨ad, rfl, _, hcell⟩ := hP.lies.cell (k := q) (by simpa using hql)
      obtain ⟨B, hB⟩ : ∃ B, B = l[q].toNat := ⟨_, rfl⟩
      have hB8 : (B : Int) < 256 := by have := l[q].toNat_lt; omega
      have hcB : wr.cell? (ad.add q) = some (.int .u8 (B : Int)) := by rw [hcell, List.getElem_map, hB]; rfl
      obtain ⟨P, hP0⟩ : ∃ P, P = B / 2 ^ d % 2 ^ n := ⟨_, rfl⟩
      have hand := and_low B d n L (by omega) hn8 hL
      rw [← hP0] at hand
      rw [← hB, ← hP0] at htb
      have hPn : P < 2 ^ n := by rw [hP0]; exact Nat.mod_lt _ (Nat.pow_pos (by omega))
      obtain ⟨Y, hY⟩ : ∃ Y, Y = X * 2 ^ n := ⟨_, rfl⟩
      have hsum : Y + P = btake (bval l) (8 * m) t (W - j) := by
        have h1 := btake_add (B := bval l) (M := 8 * m) (at_ := t) (a := W - k) (n := n) (by have := HT.out; omega)
        rw [hY, HX.out, htb, HT.out, show t + W - k = t + (W - k) by omega, h1]
        congr 1
        have := HJ.out
        omega
      have hlt64 : Y + P < 2 ^ 64 := by
        rw [hsum]
        have h1 := btake_lt (bval l) (8 * m) t (W - j)
        have h2 : 2 ^ (W - j) ≤ 2 ^ 64 := Nat.pow_le_pow_right (by omega) (by omega)
        omega
      have hsh : IntKind.u64.wrap ((X : Int) * 2 ^ n) = (Y : Int) := by
        rw [IntKind.wrap_u64, show (X : Int) * 2 ^ n = (Y : Int) by rw [hY]; simp]; omega
      have hor := or_word n Y P (by rw [hY]; exact Nat.mul_mod_left _ _) hPn hlt64
      rw [hsum] at hor
      obtain ⟨Z, hZ⟩ : ∃ Z, Z = btake (bval l) (8 * m) t (W - j) := ⟨_, rfl⟩
      rw [← hZ] at hor
      have HZ := Lib.hid hZ
      have HB8 := Lib.hid hB8
      clear hL hP0 hB hY hZ hsum hlt64 htb hcell hPn
      go_wp2
      go_quiet ((go_at_call 139; exact Calls.quiet_of_same (lowest_q _ L _ (by omega) HL.out)))
      have hP2 := hP.drewN nq
      have hb2 := below_drewN hb nq
      clear hc1 hc2 hf1 hP hb hand hcB
      generalize wr.drewN nq = w2 at *
      have hc1 := hP2.pos.cell 0
      have hf1 := hP2.pos.free 0
      go_wp2
      go_roundw
      case rel =>
        have hT2 : T + n = t + W - j := by have := HT.out; have := HJ.out; omega
        refine ⟨j, rfl, by have := HJ.out; omega, by rw [HZ.out], ?_, hb2.setCell (Nat.le_refl _) _⟩
        have h5 := hP2.step (T + n)
        rw [Int.natCast_add] at h5
        rw [← hT2]
        exact h5
      case measure => simp [intOf]; have := HJ.out; omega
    · obtain rfl : k = 0 := by omega
      go_wp2
      go_ret
      refine ⟨by rw [← Nat.sub_zero W, ← HX.out]; rfl, ?_, hb⟩
      have := HT.out
      rw [show t + W = T by omega]
      exact hP
def TakerPost (z m c : Nat) (A : Option Addr) (l : List UInt8) (w : World) (e : Ending) (w' : World) : Prop :=
  e = .returned (.func (.func 140) #[] #[.pointer (some ⟨w.heap.size + 1, 0, none⟩), .pointer (some ⟨w.heap.size, 0, none⟩)]) ∧ Taker z w.heap.size (w.heap.size + 1) m c 0 A l w' ∧ Below w.heap.size w w'
theorem taker_any (m c : Nat) (A : Option Addr) (l : List UInt8) (w w0 : World) (hr : Lies w0 A (l.map bv)) (hb0 : Below w0.heap.size w0 w) (hl : l.length = m) :
    Calls Tryz.prog 110 #[.slice A m c] w (TakerPost w0.heap.size m c A l w) := by
  have HL := Lib.hid hl
  clear hl
  go_enter Tryz.func110, Tryz.ntmps110
  go_wp2
  go_ret
  have h1 : Row (w.alloc (.cells #[.slice A m c] 25)) w.heap.size 25 [.slice A m c] := heap_alloc_new w _
  have hb : Below w.heap.size w ((w.alloc (.cells #[.slice A m c] 25)).alloc (.cells #[.int .i64 0] 3)) := ((Below.refl _ _).alloc (Nat.le_refl _) _).alloc (by simp) _
  refine ⟨rfl, ⟨hb0.size, by omega, HL.out, ⟨w0, hr, Nat.le_refl _, hb0.trans (hb.mono hb0.size)⟩, h1.alloc _, ?_⟩, hb⟩
  have h2 := heap_alloc_new (w.alloc (.cells #[.slice A m c] 25)) (.cells #[.int .i64 0] 3)
  have h3 : (w.alloc (.cells #[.slice A m c] 25)).heap.size = w.heap.size + 1 := by simp
  rw [h3] at h2
  exact h2

/-- What is answered of bytes, how many and a width that may be. -/
def unpacks (l : List UInt8) (M W : Nat) : List Nat × List UInt8 × Int :=
  if l.length < bsize M W then ([], [], 2) else if bval (l.take (bsize M W)) % 2 ^ (8 * bsize M W - W * M) = 0 then (bnums (bval (l.take (bsize M W))) (8 * bsize M W) W M, l.drop (bsize M W), 0) else ([], [], 2)
/-- Numbers, bytes and an error that a call answers. -/
def RetUE (w : World) (p : List Nat × List UInt8 × Int) (e : Ending) (w' : World) : Prop :=
  ∃ u v, e = .returned (.tuple #[u, v, .int .i64 p.2.2]) ∧ IsU p.1 u w' ∧ IsB p.2.1 v w' ∧ Below w.heap.size w w'
theorem isU_nil (w : World) : IsU [] (.slice none 0 0) w := ⟨none, 0, rfl, by simp, by simp, by unfold maxLen; omega, Lies.nil⟩
theorem RetUE.nil {w w' : World} (n : Int) (hb : Below w.heap.size w w') : RetUE w ([], [], n) (.returned (.tuple #[.slice none 0 0, .slice none 0 0, .int .i64 n])) w' := ⟨_, _, rfl, isU_nil _, isB_nil _, hb⟩
theorem isU_own {w : World} {base : Nat} {e : TypeId} {v : Value} {n : Nat} {l : List Nat} (h : w.ownsRow base e 1 v n (l.map uv)) : IsU l v w := by
  obtain ⟨B, c, rfl, hnc, hcm, _, hl, hlen⟩ := own_shape h
  rw [List.length_map] at hlen
  subst hlen
  refine ⟨B, c, rfl, ?_, hnc, hcm, hl⟩
  intro hB
  subst hB
  rcases hl with hl | ⟨ad, h, _⟩
  · simpa using hl
  · cases h
/-- The same, numbers and bytes in rows of the call's own. -/
def RetUO (w : World) (p : List Nat × List UInt8 × Int) (e : Ending) (w' : World) : Prop :=
  ∃ u v, e = .returned (.tuple #[u, v, .int .i64 p.2.2]) ∧ w'.ownsRow w.heap.size 53 1 u p.1.length (p.1.map uv) ∧ OwnB w p.2.1 v w' ∧ Below w.heap.size w w'
theorem RetUO.nil {w w' : World} (n : Int) (hb : Below w.heap.size w w') : RetUO w ([], [], n) (.returned (.tuple #[.slice none 0 0, .slice none 0 0, .int .i64 n])) w' := ⟨_, _, rfl, World.ownsRow_nil _ _ _ _, ⟨0, World.ownsRow_nil _ _ _ _⟩, hb⟩
end Go.Proofs.YtnbiopihcbnkpaaGreatDoor

/- The contract of varint.Put. -/





namespace Go.Proofs.YtnbiopihcbnkpaaGreatDoor

open Go.RowKit

/-- What the loop holds: j bytes are laid down behind l. -/
def PutRel (l : List UInt8) (X k : Nat) (w : World) (t : TypeId) (x i : Value) (wr : World) : Prop :=
  ∃ j : Nat, i = .int .i64 (j : Int) ∧ j + 1 ≤ k ∧ x = .int .u64 ((X / 128 ^ j : Nat) : Int) ∧ Row wr w.heap.size t ((l ++ (vput X).take j).map bv ++ List.replicate (k - j) (bv 0)) ∧ Below w.heap.size w wr

set_option maxHeartbeats 400000 in
set_option maxRecDepth 100000 in
theorem put_own (A : Option Addr) (n c : Nat) (x : Int) (l : List UInt8) (w : World) (_hA : A = none → n = 0) (hn : l.length = n) (hnb : n ≤ 1000000) (hl : Lies w A (l.map bv)) (h0 : 0 ≤ x) (h1 : x < 18446744073709551616) :
    Calls Tryz.prog 116 #[.slice A n c, .int .u64 x] w (RetOwn w (l ++ vput x.toNat)) := by
  have h10 := vput_len_10 (x := x.toNat) (by omega)
  have hp := vput_len_pos x.toNat
  obtain ⟨k, hk⟩ : ∃ k, k = (vput x.toNat).length := ⟨_, rfl⟩
  have HK := Lib.hid hk
  have hsz := vsize_any x w h0 h1
  rw [← hk] at hsz h10 hp
  have HS := Lib.hid hsz
  clear hk hsz
  have hm : (l.map bv).length = n := by simpa using hn
  go_enter Tryz.func116, Tryz.ntmps116
  go_wp2_with (first | (go_at_call 142; refine HS.out.mono ?_; rintro e w' ⟨rfl, rfl⟩) | (refine wpList_make elemB rfl _ _ rfl _ _ _ _ (n + k) w w.heap.size rfl rfl ?_ ?_ (by omega) (by omega) (Below.refl _ _) (Nat.le_refl _) ?_))
  · omega
  · omega
  intro w1 hr1 hb1
  have hl1 := hl.below hb1
  have hlr : (List.replicate (n + k) (bv 0)).length = n + k := by simp
  go_wp2_with (refine wpList_copyRow elemB rfl (.tmp 16) (.tmp 17) rfl _ _ _ _ _ _ _ _ (l.map bv) w.heap.size w rfl rfl hr1 hm hl1 (bv_one l) (by omega) (by omega) hb1 (Nat.le_refl _) ?_)
  intro w2 hr2 hb2
  have hr2' : Row w2 w.heap.size 5 (l.map bv ++ List.replicate k (bv 0)) := by simpa [hn] using hr2
  clear hr2 hr1 hb1 hl1 hlr HS
  go_wp2
  obtain ⟨X, rfl⟩ := Int.eq_ofNat_of_zero_le h0
  rw [Int.toNat_natCast] at *
  go_loopw [1, 25] (PutRel l X k w 5) (fun _ i _ => k - (intOf i).toNat)
  case atStart => exact ⟨0, rfl, by omega, by simp, by simpa using hr2', hb2⟩
  case round =>
    obtain ⟨j, rfl, hj, rfl, hr, hb⟩ := hrel
    clear hr2' hb2
    have hll : ((l ++ (vput X).take j).map bv).length = n + j := by
      have := HK.out
      simp; omega
    have hc0 : wr.cell? ⟨w.heap.size, n + j, none⟩ = some (bv 0) := by
      rw [hr.cell, List.getElem?_append_right (by omega), hll, List.getElem?_replicate]
      simp; omega
    have hf0 := hr.free (n + j)
    generalize hY : X / 128 ^ j = Y at *
    have HY := Lib.hid hY
    clear hY
    have hy : (Y : Int) < 18446744073709551616 := by
      have := Nat.div_le_self X (128 ^ j)
      rw [HY.out] at this
      omega
    have ho := u8_or128 ((Y : Int) % 256) (by omega) (by omega)
    by_cases hlt : j + 1 < k
    · have hq : ((j : Int) < (k : Int) - 1) := by omega
      go_wp2
      go_roundw
      case rel =>
        refine ⟨j + 1, by go_num, by omega, ?_, ?_, hb.setCell (Nat.le_refl _) _⟩
        · rw [Nat.pow_succ, ← Nat.div_div_eq_div_mul, HY.out]; go_num
        · have h2 := hr.set_ (n + j) (.int .u8 ((Y : Int) % 128 + 128))
          have h3 : Value.int .u8 ((Y : Int) % 128 + 128) = bv (UInt8.ofNat (Y % 128 + 128)) := by
            rw [show (Y : Int) % 128 + 128 = ((Y % 128 + 128 : Nat) : Int) by omega, bv_low (by omega)]
          have h4 := (vput_getElem j X (by have := HK.out; omega)).1
          rw [h3] at h2 ⊢
          have h5 : (List.map bv (l ++ List.take j (vput X)) ++ List.replicate (k - j) (bv 0)).set (n + j) (bv (UInt8.ofNat (Y % 128 + 128))) =
              List.map bv (l ++ List.take (j + 1) (vput X)) ++ List.replicate (k - (j + 1)) (bv 0) := by
            rw [List.set_append_right _ _ (by omega), hll, Nat.sub_self, show k - j = k - (j + 1) + 1 by omega, List.replicate_succ, List.set_cons_zero,
              List.take_succ_eq_append_getElem (by have := HK.out; omega), h4, HY.out]
            simp
          rw [h5] at h2
          exact h2
      case measure => simp [intOf]; omega
    · obtain rfl : k = j + 1 := by omega
      have hq : ¬ ((j : Int) < ((j + 1 : Nat) : Int) - 1) := by omega
      go_wp2
      go_ret
      have h4 := vput_take_last j X HK.out
      have h5 := (vput_last j X HK.out).2
      rw [HY.out] at h4 h5
      have h2 := hr.set_ (n + j) (.int .u8 ((Y : Int) % 256))
      have h6 : (List.map bv (l ++ List.take j (vput X)) ++ List.replicate (j + 1 - j) (bv 0)).set (n + j) (.int .u8 ((Y : Int) % 256)) = List.map bv (l ++ vput X) := by
        have h7 : Value.int .u8 ((Y : Int) % 256) = bv (UInt8.ofNat Y) := by
          rw [show (Y : Int) % 256 = ((Y : Nat) : Int) by omega, bv_low (by omega)]
        rw [List.set_append_right _ _ (by omega), hll, Nat.sub_self, show j + 1 - j = 0 + 1 by omega, List.replicate_succ, List.set_cons_zero, h7, List.replicate_zero]
        conv => rhs; rw [← h4]
        simp
      rw [h6] at h2
      have h9 : (l ++ vput X).length = n + (j + 1) := by have := HK.out; rw [List.length_append]; omega
      exact ⟨.slice (some ⟨w.heap.size, 0, none⟩) (n + (j + 1)) (n + (j + 1)), rfl, by rw [h9]; exact own_of_row h2 (by rw [List.length_map]; exact h9) (Nat.le_refl _) (by omega), hb.setCell (Nat.le_refl _) _⟩
end Go.Proofs.YtnbiopihcbnkpaaGreatDoor

/- Contracts of the numbers with a sign, or without, and of what stands at the head of all statements. -/





namespace Go.Proofs.YtnbiopihcbnkpaaGreatDoor

open Go.RowKit

/-- The number that is laid down. -/
def vint (x : Int) (s : Bool) : Nat := if s = true then (vzig x).toNat else (x % 18446744073709551616).toNat
/-- What is taken as a number with a sign, or without. -/
def vtint (l : List UInt8) (s : Bool) : Option (Int × List UInt8) :=
  match vtake l, s with
  | none, _ => none
  | some p, true => some (vzag (p.1 : Int), p.2)
  | some p, false => if 9223372036854775808 ≤ (p.1 : Int) then none else some ((p.1 : Int), p.2)
theorem vtint_none {l : List UInt8} (s : Bool) (h : vtake l = none) : vtint l s = none := by unfold vtint; rw [h]
theorem vtint_true {l r : List UInt8} {u : Nat} (h : vtake l = some (u, r)) : vtint l true = some (vzag (u : Int), r) := by unfold vtint; rw [h]
theorem vtint_small {l r : List UInt8} {u : Nat} (h : vtake l = some (u, r)) (hu : (u : Int) < 9223372036854775808) : vtint l false = some ((u : Int), r) := by
  unfold vtint; rw [h]; exact if_neg (by show ¬ (9223372036854775808 : Int) ≤ (u : Int); omega)
theorem vtint_big {l r : List UInt8} {u : Nat} (h : vtake l = some (u, r)) (hu : 9223372036854775808 ≤ (u : Int)) : vtint l false = none := by
  unfold vtint; rw [h]; exact if_pos hu

set_option maxHeartbeats 400000 in
theorem putInt_own (A : Option Addr) (n c : Nat) (x : Int) (s : Bool) (l : List UInt8) (w : World) (hA : A = none → n = 0) (hn : l.length = n) (hnb : n ≤ 1000000) (hl : Lies w A (l.map bv)) (h0 : -9223372036854775808 ≤ x) (h1 : x ≤ 9223372036854775807) :
    Calls Tryz.prog 78 #[.slice A n c, .int .i64 x, .bool s] w (RetOwn w (l ++ vput (vint x s))) := by
  cases s with
  | true =>
    obtain ⟨hz0, hz1⟩ := vzig_bd h0 h1
    go_enter Tryz.func78, Tryz.ntmps78
    go_wp2_with (first | (go_at_call 99; refine (zig_any _ _ h0 h1).mono ?_; rintro e w' ⟨rfl, rfl⟩) | (go_at_call 116; refine (put_own _ _ _ _ l _ hA hn hnb hl hz0 hz1).mono ?_; intro e w' h; obtain ⟨v, rfl, hv, hb⟩ := h; have HV := Lib.hid hv; clear hv))
    go_ret
    exact ⟨_, rfl, HV.out, hb⟩
  | false =>
    have hw : IntKind.u64.wrap x = x % 18446744073709551616 := IntKind.wrap_u64 x
    have hu0 : 0 ≤ x % 18446744073709551616 := by omega
    have hu1 : x % 18446744073709551616 < 18446744073709551616 := by omega
    by_cases hx : 0 ≤ x
    · have he : x % 18446744073709551616 = x := by omega
      have HE := Lib.hid he
      clear he hu0 hu1 hw
      go_enter Tryz.func78, Tryz.ntmps78
      go_wp2_with (go_at_call 116; refine (put_own _ _ _ _ l _ hA hn hnb hl hx (by omega)).mono ?_; intro e w' h; obtain ⟨v, rfl, hv, hb⟩ := h; have HV := Lib.hid hv; clear hv)
      go_ret
      unfold vint
      rw [if_neg (by decide), HE.out]
      exact ⟨_, rfl, HV.out, hb⟩
    · have hx' : x < 0 := by omega
      go_enter Tryz.func78, Tryz.ntmps78
      go_wp2_with (go_at_call 116; refine (put_own _ _ _ _ l _ hA hn hnb hl hu0 hu1).mono ?_; intro e w' h; obtain ⟨v, rfl, hv, hb⟩ := h; have HV := Lib.hid hv; clear hv)
      go_ret
      exact ⟨_, rfl, HV.out, hb⟩

set_option maxHeartbeats 400000 in
theorem rputInt_own (A : Option Addr) (n c : Nat) (x : Int) (s : Bool) (l : List UInt8) (w : World) (hA : A = none → n = 0) (hn : l.length = n) (hnb : n ≤ 1000000) (hl : Lies w A (l.map bv)) (h0 : -9223372036854775808 ≤ x) (h1 : x ≤ 9223372036854775807) :
    Calls Tryz.prog 48 #[.slice A n c, .int .i64 x, .bool s] w (RetOwn w (l ++ vput (vint x s))) := by
  cases s with
  | true =>
    obtain ⟨hz0, hz1⟩ := vzig_bd h0 h1
    go_enter Tryz.func48, Tryz.ntmps48
    go_wp2_with (first | (go_at_call 90; refine (rzig_any _ _ h0 h1).mono ?_; rintro e w' ⟨rfl, rfl⟩) | (go_at_call 92; refine (rput_own _ _ _ _ l _ hA hn hnb hl hz0 hz1).mono ?_; intro e w' h; obtain ⟨v, rfl, hv, hb⟩ := h; have HV := Lib.hid hv; clear hv))
    go_ret
    exact ⟨_, rfl, HV.out, hb⟩
  | false =>
    have hw : IntKind.u64.wrap x = x % 18446744073709551616 := IntKind.wrap_u64 x
    have hu0 : 0 ≤ x % 18446744073709551616 := by omega
    have hu1 : x % 18446744073709551616 < 18446744073709551616 := by omega
    by_cases hx : 0 ≤ x
    · have he : x % 18446744073709551616 = x := by omega
      have HE := Lib.hid he
      clear he hu0 hu1 hw
      go_enter Tryz.func48, Tryz.ntmps48
      go_wp2_with (go_at_call 92; refine (rput_own _ _ _ _ l _ hA hn hnb hl hx (by omega)).mono ?_; intro e w' h; obtain ⟨v, rfl, hv, hb⟩ := h; have HV := Lib.hid hv; clear hv)
      go_ret
      unfold vint
      rw [if_neg (by decide), HE.out]
      exact ⟨_, rfl, HV.out, hb⟩
    · have hx' : x < 0 := by omega
      go_enter Tryz.func48, Tryz.ntmps48
      go_wp2_with (go_at_call 92; refine (rput_own _ _ _ _ l _ hA hn hnb hl hu0 hu1).mono ?_; intro e w' h; obtain ⟨v, rfl, hv, hb⟩ := h; have HV := Lib.hid hv; clear hv)
      go_ret
      exact ⟨_, rfl, HV.out, hb⟩

theorem putInt_any (A : Option Addr) (n c : Nat) (x : Int) (s : Bool) (l : List UInt8) (w : World) (hA : A = none → n = 0) (hn : l.length = n) (hnb : n ≤ 1000000) (hl : Lies w A (l.map bv)) (h0 : -9223372036854775808 ≤ x) (h1 : x ≤ 9223372036854775807) :
    Calls Tryz.prog 78 #[.slice A n c, .int .i64 x, .bool s] w (RetB w (l ++ vput (vint x s))) := (putInt_own A n c x s l w hA hn hnb hl h0 h1).mono fun _ _ h => h.retB
theorem rputInt_any (A : Option Addr) (n c : Nat) (x : Int) (s : Bool) (l : List UInt8) (w : World) (hA : A = none → n = 0) (hn : l.length = n) (hnb : n ≤ 1000000) (hl : Lies w A (l.map bv)) (h0 : -9223372036854775808 ≤ x) (h1 : x ≤ 9223372036854775807) :
    Calls Tryz.prog 48 #[.slice A n c, .int .i64 x, .bool s] w (RetB w (l ++ vput (vint x s))) := (rputInt_own A n c x s l w hA hn hnb hl h0 h1).mono fun _ _ h => h.retB

set_option maxHeartbeats 400000 in
set_option maxRecDepth 100000 in
theorem takeInt_any (A : Option Addr) (n c : Nat) (s : Bool) (l : List UInt8) (w : World) (hA : A = none → n = 0) (hn : l.length = n) (hnc : n ≤ c) (hnb : n ≤ 1000000) (hl : Lies w A (l.map bv)) :
    Calls Tryz.prog 80 #[.slice A n c, .bool s] w (RetT .i64 w (vtint l s)) := by
  cases ht : vtake l with
  | none =>
    have hc := take_any A n c l w hA hn hnc hnb hl
    rw [ht] at hc
    have HC := Lib.hid hc
    have HT := Lib.hid ht
    clear hc ht
    go_enter Tryz.func80, Tryz.ntmps80
    go_wp2_with (go_at_call 117; refine HC.out.mono ?_; rintro e w' ⟨rfl, hb⟩)
    go_ret3
    rw [vtint_none _ HT.out]
    exact ⟨rfl, hb⟩
  | some p =>
    obtain ⟨u, r⟩ := p
    have hu := (vtake_some ht).2
    have hu0 : (0 : Int) ≤ (u : Int) := by omega
    have hu1 : (u : Int) < 18446744073709551616 := by omega
    have hc := take_any A n c l w hA hn hnc hnb hl
    rw [ht] at hc
    have ht' : Option.map (fun p : Nat × List UInt8 => ((p.1 : Int), p.2)) (some (u, r)) = some ((u : Int), r) := rfl
    rw [ht'] at hc
    obtain ⟨U, hU⟩ : ∃ U : Int, U = (u : Int) := ⟨_, rfl⟩
    rw [← hU] at hc hu0 hu1
    have HU := Lib.hid hU
    have HC := Lib.hid hc
    have HT := Lib.hid ht
    clear hc ht hu ht' hU
    cases s with
    | true =>
      go_enter Tryz.func80, Tryz.ntmps80
      go_wp2_with (first | (go_at_call 117; refine HC.out.mono ?_; rintro e w' ⟨A1, c1, rfl, h2⟩; have H2 := Lib.hid h2; clear h2) | (go_at_call 111; refine (zag_any _ _ hu0 hu1).mono ?_; rintro e w2 ⟨rfl, rfl⟩))
      go_ret3
      rw [vtint_true HT.out, ← HU.out]
      exact ⟨A1, c1, rfl, H2.out⟩
    | false =>
      by_cases hbig : U < 9223372036854775808
      · have hb2 : ¬ (9223372036854775807 : Int) < U := by omega
        have hb3 : ¬ (9223372036854775808 : Int) ≤ U := by omega
        go_enter Tryz.func80, Tryz.ntmps80
        go_wp2_with (go_at_call 117; refine HC.out.mono ?_; rintro e w' ⟨A1, c1, rfl, h2⟩; have H2 := Lib.hid h2; clear h2)
        go_ret3
        rw [vtint_small HT.out (by have := HU.out; omega), ← HU.out]
        exact ⟨A1, c1, rfl, H2.out⟩
      · have hb2 : (9223372036854775807 : Int) < U := by omega
        have hb3 : (9223372036854775808 : Int) ≤ U := by omega
        go_enter Tryz.func80, Tryz.ntmps80
        go_wp2_with (go_at_call 117; refine HC.out.mono ?_; rintro e w' ⟨A1, c1, rfl, h2⟩; have H2 := Lib.hid h2; clear h2)
        go_ret3
        rw [vtint_big HT.out (by have := HU.out; omega)]
        exact ⟨rfl, H2.out.2.2.2.2⟩

set_option maxHeartbeats 400000 in
set_option maxRecDepth 100000 in
theorem rtakeInt_any (A : Option Addr) (n c : Nat) (s : Bool) (l : List UInt8) (w : World) (hA : A = none → n = 0) (hn : l.length = n) (hnc : n ≤ c) (hnb : n ≤ 1000000) (hl : Lies w A (l.map bv)) :
    Calls Tryz.prog 97 #[.slice A n c, .bool s] w (RetT .i64 w (vtint l s)) := by
  cases ht : vtake l with
  | none =>
    have hc := rtake_any A n c l w hA hn hnc hnb hl
    rw [ht] at hc
    have HC := Lib.hid hc
    have HT := Lib.hid ht
    clear hc ht
    go_enter Tryz.func97, Tryz.ntmps97
    go_wp2_with (go_at_call 132; refine HC.out.mono ?_; rintro e w' ⟨rfl, hb⟩)
    go_ret3
    rw [vtint_none _ HT.out]
    exact ⟨rfl, hb⟩
  | some p =>
    obtain ⟨u, r⟩ := p
    have hu := (vtake_some ht).2
    have hu0 : (0 : Int) ≤ (u : Int) := by omega
    have hu1 : (u : Int) < 18446744073709551616 := by omega
    have hc := rtake_any A n c l w hA hn hnc hnb hl
    rw [ht] at hc
    have ht' : Option.map (fun p : Nat × List UInt8 => ((p.1 : Int), p.2)) (some (u, r)) = some ((u : Int), r) := rfl
    rw [ht'] at hc
    obtain ⟨U, hU⟩ : ∃ U : Int, U = (u : Int) := ⟨_, rfl⟩
    rw [← hU] at hc hu0 hu1
    have HU := Lib.hid hU
    have HC := Lib.hid hc
    have HT := Lib.hid ht
    clear hc ht hu ht' hU
    cases s with
    | true =>
      go_enter Tryz.func97, Tryz.ntmps97
      go_wp2_with (first | (go_at_call 132; refine HC.out.mono ?_; rintro e w' ⟨A1, c1, rfl, h2⟩; have H2 := Lib.hid h2; clear h2) | (go_at_call 133; refine (rzag_any _ _ hu0 hu1).mono ?_; rintro e w2 ⟨rfl, rfl⟩))
      go_ret3
      rw [vtint_true HT.out, ← HU.out]
      exact ⟨A1, c1, rfl, H2.out⟩
    | false =>
      by_cases hbig : U < 9223372036854775808
      · have hb2 : ¬ (9223372036854775807 : Int) < U := by omega
        have hb3 : ¬ (9223372036854775808 : Int) ≤ U := by omega
        go_enter Tryz.func97, Tryz.ntmps97
        go_wp2_with (go_at_call 132; refine HC.out.mono ?_; rintro e w' ⟨A1, c1, rfl, h2⟩; have H2 := Lib.hid h2; clear h2)
        go_ret3
        rw [vtint_small HT.out (by have := HU.out; omega), ← HU.out]
        exact ⟨A1, c1, rfl, H2.out⟩
      · have hb2 : (9223372036854775807 : Int) < U := by omega
        have hb3 : (9223372036854775808 : Int) ≤ U := by omega
        go_enter Tryz.func97, Tryz.ntmps97
        go_wp2_with (go_at_call 132; refine HC.out.mono ?_; rintro e w' ⟨A1, c1, rfl, h2⟩; have H2 := Lib.hid h2; clear h2)
        go_ret3
        rw [vtint_big HT.out (by have := HU.out; omega)]
        exact ⟨rfl, H2.out.2.2.2.2⟩
end Go.Proofs.YtnbiopihcbnkpaaGreatDoor

/- The contract of bits.Unpack. -/



namespace Go.Proofs.YtnbiopihcbnkpaaGreatDoor

open Go.RowKit

def UnpRel (l : List UInt8) (g b a m c M W : Nat) (A : Option Addr) (w : World) (i : Value) (wr : World) : Prop :=
  ∃ k : Nat, i = .int .i64 (k : Int) ∧ k ≤ M ∧ Row wr g 53 ((bnums (bval l) (8 * m) W k).map uv ++ List.replicate (M - k) (uv 0)) ∧ Taker g b a m c (W * k) A l wr ∧ Below w.heap.size w wr
theorem bnums_set (B m W M k : Nat) (hk : k < M) : ((bnums B (8 * m) W k).map uv ++ List.replicate (M - k) (uv 0)).set k (uv (btake B (8 * m) (W * k) W)) = (bnums B (8 * m) W (k + 1)).map uv ++ List.replicate (M - (k + 1)) (uv 0) := by
  have hl : ((bnums B (8 * m) W k).map uv).length = k := by rw [List.length_map, bnums_len]
  rw [List.set_append_right _ _ (by omega), hl, Nat.sub_self, show M - k = M - (k + 1) + 1 by omega, List.replicate_succ, List.set_cons_zero, bnums_succ, List.map_append, List.append_assoc]
  rfl

set_option maxHeartbeats 2000000 in
set_option maxRecDepth 100000 in
theorem unpack_own (A : Option Addr) (n c : Nat) (l : List UInt8) (M W : Nat) (w : World) (hA : A = none → n = 0) (hn : l.length = n) (hnc : n ≤ c) (hnb : n ≤ 1000000) (hM : M ≤ 4096) (hW : W ≤ 64) (hl : Lies w A (l.map bv)) :
    Calls Tryz.prog 69 #[.slice A n c, .int .i64 (M : Int), .int .i64 (W : Int)] w (RetUO w (unpacks l M W)) := by
  have HN := Lib.hid hn
  clear hn
  obtain ⟨m, hm⟩ : ∃ m, m = bsize M W := ⟨_, rfl⟩
  have hmW : W * M ≤ 8 * m := by rw [hm]; exact bsize_le M W
  have hm4 : m ≤ 32768 := by have := prod_le hM hW; unfold bsize at hm; omega
  obtain ⟨p, hp⟩ : ∃ p, p = W * M := ⟨_, rfl⟩
  have hp4 : p ≤ 262144 := by rw [hp, Nat.mul_comm]; exact prod_le hM hW
  obtain ⟨s, hs⟩ : ∃ s, s = 8 * m - p := ⟨_, rfl⟩
  have hs7 : s ≤ 7 := by rw [hs, hp, hm]; exact bsize_spare M W
  have hpm : p + s = 8 * m := by omega
  have hmul : (M : Int) * (W : Int) = (p : Int) := by rw [hp, Nat.mul_comm]; simp
  have hsz := fun w => size_in M W w hM hW
  rw [← hm] at hsz
  have HS := Lib.hid hsz
  have HM := Lib.hid hm
  have HMW := Lib.hid hmW
  have HP := Lib.hid hp
  have HPM := Lib.hid hpm
  clear hsz hm hmW hp hs hpm
  by_cases hsh : n < m
  · have hun : unpacks l M W = ([], [], 2) := by unfold unpacks; rw [if_pos (by rw [HN.out, ← HM.out]; exact hsh)]
    have HU := Lib.hid hun
    clear hun
    go_enter Tryz.func69, Tryz.ntmps69
    go_wp2_with (first | (go_at_call 107; refine (isCount_yes _ _ (by omega) (by omega)).mono ?_; rintro e w' ⟨rfl, rfl⟩) | (go_at_call 106; refine (isWidth_yes _ _ (by omega) (by omega)).mono ?_; rintro e w' ⟨rfl, rfl⟩) | (go_at_call 108; refine (HS.out _).mono ?_; rintro e w' ⟨rfl, rfl⟩))
    go_ret3
    rw [HU.out]
    exact RetUO.nil _ (Below.refl _ _)
  · have hmn : m ≤ n := by omega
    obtain ⟨l', hl'⟩ : ∃ l', l' = l.take m := ⟨_, rfl⟩
    have hl'm : l'.length = m := by rw [hl', List.length_take]; have := HN.out; omega
    have hlies' : Lies w A (l'.map bv) := by rw [hl', List.map_take]; exact hl.take m
    have HL' := Lib.hid hl'
    have HLM := Lib.hid hl'm
    clear hl' hl'm
    go_enter Tryz.func69, Tryz.ntmps69
    go_wp2_with (first | (go_at_call 107; refine (isCount_yes _ _ (by omega) (by omega)).mono ?_; rintro e w' ⟨rfl, rfl⟩) | (go_at_call 106; refine (isWidth_yes _ _ (by omega) (by omega)).mono ?_; rintro e w' ⟨rfl, rfl⟩) | (go_at_call 108; refine (HS.out _).mono ?_; rintro e w' ⟨rfl, rfl⟩) | (refine wpList_make elemU rfl _ _ rfl _ _ _ _ M w w.heap.size rfl rfl ?_ ?_ (by omega) (by omega) (Below.refl _ _) (Nat.le_refl _) ?_))
    · rfl
    · rfl
    intro w1 hr1 hb1
    go_wp2_with fail
    refine (taker_any m c A l' w1 w hlies' hb1 HLM.out).mono ?_
    rintro e w2 ⟨rfl, hP, hb2⟩
    obtain ⟨b, hbz⟩ : ∃ b, b = w1.heap.size := ⟨_, rfl⟩
    have hr2 := hr1.below hb2 hr1.lt
    have hgb : w.heap.size < b := by rw [hbz]; exact hr1.lt
    rw [← hbz] at hP ⊢
    have hbb : Below w.heap.size w w2 := hb1.trans (hb2.mono hb1.size)
    clear hr1 hb1 hb2 hbz
    go_wp2
    go_loopw [37] (UnpRel l' w.heap.size b (b + 1) m c M W A w) (fun i _ => M - (intOf i).toNat)
    case atStart => exact ⟨0, rfl, by omega, by simpa [bnums] using hr2, by rw [Nat.mul_zero]; exact hP, hbb⟩
    case round =>
      obtain ⟨k, rfl, hk, hr, hP, hb⟩ := hrel
      clear hr2 hbb
      by_cases hlt : k < M
      · have hstep : W * k + W ≤ 8 * m := by
          have h1 : W * (k + 1) ≤ W * M := Nat.mul_le_mul_left _ hlt
          have := HMW.out
          rw [Nat.mul_add, Nat.mul_one] at h1
          omega
        go_wp2_with fail
        refine (take1_any _ _ _ m c _ W A l' _ hP hW hstep (by omega)).mono ?_
        rintro e w3 ⟨rfl, hP', hb'⟩
        obtain ⟨Z, hZ⟩ : ∃ Z, Z = btake (bval l') (8 * m) (W * k) W := ⟨_, rfl⟩
        have hr3 := hr.below hb' (by omega)
        have hb3 := hb.trans (hb'.mono (by omega))
        have hf3 := hr3.free k
        have hset := hr3.set_ k (uv Z)
        rw [hZ, bnums_set _ _ _ _ _ hlt] at hset
        rw [← hZ]
        have hc3 : ∃ u, w3.cell? ⟨w.heap.size, k, none⟩ = some u := by
          rw [hr3.cell]
          exact ⟨_, List.getElem?_eq_getElem (by simp [bnums_len]; omega)⟩
        obtain ⟨u, hc3⟩ := hc3
        have hP3 := hP'.far (Nat.le_refl w.heap.size) hgb k (uv Z)
        have hb4 := hb3.setCell (p := ⟨w.heap.size, k, none⟩) (Nat.le_refl _) (uv Z)
        have HSet := Lib.hid hset
        rw [← hZ] at HSet
        clear hset hZ hP hr hb hb' hr3 hb3
        go_wp2
        go_roundw
        case rel => exact ⟨k + 1, by go_num, by omega, HSet.out, by rw [Nat.mul_add, Nat.mul_one]; exact hP3, hb4⟩
        case measure => simp [intOf]; omega
      · obtain rfl : k = M := by omega
        have hsub : (m : Int) * 8 - (p : Int) = (s : Int) := by have := HPM.out; omega
        have hsub2 : IntKind.i64.wrap ((m : Int) * 8 - (p : Int)) = (s : Int) := by rw [hsub, IntKind.wrap_i64]; omega
        have hwp : IntKind.i64.wrap (p : Int) = (p : Int) := by rw [IntKind.wrap_i64]; omega
        rw [← HP.out] at hP
        go_wp2_with fail
        refine (take1_any _ _ _ m c _ s A l' _ hP (by omega) (by have := HPM.out; omega) (by omega)).mono ?_
        rintro e w3 ⟨rfl, hP', hb'⟩
        have hr3 := hr.below hb' (by omega)
        have hb3 := hb.trans (hb'.mono (by omega))
        rw [Nat.sub_self, List.replicate_zero, List.append_nil] at hr3
        obtain ⟨Z, hZ⟩ : ∃ Z, Z = btake (bval l') (8 * m) p s := ⟨_, rfl⟩
        have hZ2 : Z = bval l' % 2 ^ s := by
          have h1 := HPM.out
          rw [hZ, show s = 8 * m - p by omega]
          exact btake_spare (by omega)
        have hun : unpacks l k W = if Z = 0 then (bnums (bval l') (8 * m) W k, l.drop m, 0) else ([], [], 2) := by
          have h1 := HPM.out
          have h2 := HP.out
          unfold unpacks
          rw [← HM.out, if_neg (by rw [HN.out]; omega), ← HL'.out, ← h2, show 8 * m - p = s by omega, ← hZ2]
        rw [← hZ]
        clear hZ hZ2 hsub hsub2 hwp hmul hP' hb' hP hr hb
        by_cases hZ0 : Z = 0
        · subst hZ0
          rw [if_pos rfl] at hun
          have HU := Lib.hid hun
          clear hun
          have hl3 := hl.below hb3
          have hml : (l.map bv).length = n := by rw [List.length_map]; exact HN.out
          have HML := Lib.hid hml
          clear hml
          go_wp2_with (refine wpList_from elemB rfl _ _ rfl A n c m (l.map bv) rfl rfl hmn hnc HML.out hl3 hA ?_)
          intro B hlB hB
          have hdl : ((l.map bv).drop m).length = n - m := by rw [List.length_drop, HML.out]
          have HDL := Lib.hid hdl
          clear hdl
          go_wp2_with (at_builtin; refine wpList_join elemB rfl _ _ rfl w3.heap.size _ _ _ _ _ _ ((l.map bv).drop m) w3 rfl rfl hB HDL.out hlB (by rw [← List.map_drop]; exact bv_one _) (World.ownsRow_nil _ _ _ _) (Below.refl _ _) (Nat.le_refl _) (by omega) (by omega) ?_)
          intro v4 w4 hown4 hb4 _ _
          go_wp2
          go_ret3
          rw [HU.out]
          refine ⟨_, _, rfl, by rw [bnums_len]; exact own_of_row (hr3.below hb4 hr3.lt) (by rw [List.length_map]; exact bnums_len _ _ _ _) (by omega) (by omega), ?_, below_then hb3 hb4⟩
          rw [← List.map_drop] at hown4
          exact ⟨_, own_base hb3.size hown4⟩
        · rw [if_neg hZ0] at hun
          have HU := Lib.hid hun
          have d1 : ((Z : Int) != 0) = true := by simpa using hZ0
          clear hun hZ0
          go_wp2
          go_ret3
          rw [HU.out]
          exact RetUO.nil _ hb3
/-- How many, or a width, that is none. -/
theorem unpack_out (A : Option Addr) (n c : Nat) (M W : Int) (w : World) (h : ¬ (0 ≤ M ∧ M ≤ 4096 ∧ 0 ≤ W ∧ W ≤ 64)) :
    Calls Tryz.prog 69 #[.slice A n c, .int .i64 M, .int .i64 W] w (RetUO w ([], [], 1)) := by
  rcases (by omega : (M < 0 ∨ 4096 < M) ∨ ((0 ≤ M ∧ M ≤ 4096) ∧ (W < 0 ∨ 64 < W))) with h | ⟨h1, h⟩
  · go_enter Tryz.func69, Tryz.ntmps69
    go_wp2_with (go_at_call 107; refine (isCount_no _ _ (by omega)).mono ?_; rintro e w' ⟨rfl, rfl⟩)
    go_ret3
    exact RetUO.nil _ (Below.refl _ _)
  · go_enter Tryz.func69, Tryz.ntmps69
    go_wp2_with (first | (go_at_call 107; refine (isCount_yes _ _ (by omega) (by omega)).mono ?_; rintro e w' ⟨rfl, rfl⟩) | (go_at_call 106; refine (isWidth_no _ _ (by omega)).mono ?_; rintro e w' ⟨rfl, rfl⟩))
    go_ret3
    exact RetUO.nil _ (Below.refl _ _)
/-- What Unpack answers, of any two numbers. -/
def unpacksAny (l : List UInt8) (M W : Int) : List Nat × List UInt8 × Int := if 0 ≤ M ∧ M ≤ 4096 ∧ 0 ≤ W ∧ W ≤ 64 then unpacks l M.toNat W.toNat else ([], [], 1)
theorem unpacksAny_in (l : List UInt8) (M W : Nat) (hM : M ≤ 4096) (hW : W ≤ 64) : unpacksAny l M W = unpacks l M W := by
  unfold unpacksAny
  rw [if_pos (by omega), Int.toNat_natCast, Int.toNat_natCast]
theorem unpacks_back {l : List Nat} {W : Nat} (h : ∀ x ∈ l, x < 2 ^ W) (b : List UInt8) : unpacks (bpack l W ++ b) l.length W = (l, b, 0) := by
  have hlen := bpack_len l W
  have ht : (bpack l W ++ b).take (bsize l.length W) = bpack l W := by rw [← hlen]; simp
  have hd : (bpack l W ++ b).drop (bsize l.length W) = b := by rw [← hlen]; simp
  unfold unpacks
  rw [if_neg (by rw [List.length_append, hlen]; omega), ht, hd, if_pos (bpack_spare h), bnums_bpack h]
theorem unpack_isO {l : List UInt8} {v : Value} {w : World} (M W : Int) (hl : IsB l v w) (h4 : l.length ≤ 1000000) :
    Calls Tryz.prog 69 #[v, .int .i64 M, .int .i64 W] w (RetUO w (unpacksAny l M W)) := by
  obtain ⟨A, c, rfl, h1, h2, _, h3⟩ := hl
  by_cases h : 0 ≤ M ∧ M ≤ 4096 ∧ 0 ≤ W ∧ W ≤ 64
  · obtain ⟨K, rfl⟩ := Int.eq_ofNat_of_zero_le (show 0 ≤ M by omega)
    obtain ⟨J, rfl⟩ := Int.eq_ofNat_of_zero_le (show 0 ≤ W by omega)
    rw [unpacksAny_in _ _ _ (by omega) (by omega)]
    exact unpack_own A _ c l K J w h1 rfl h2 h4 (by omega) (by omega) h3
  · unfold unpacksAny
    rw [if_neg h]
    exact unpack_out _ _ _ _ _ _ h
end Go.Proofs.YtnbiopihcbnkpaaGreatDoor

/- Numbers packed as they are (layer 8), as plain mathematics: heads, numbers as they stand, runs. -/







namespace Go.Proofs.YtnbiopihcbnkpaaGreatDoor

/-- f of each; none, if it is none of one. -/
def omap {α β : Type} (f : α → Option β) : List α → Option (List β)
  | [] => some []
  | x :: l => match f x with | none => none | some y => match omap f l with | none => none | some ys => some (y :: ys)
section

variable {α β : Type} {f : α → Option β}
theorem omap_snoc (l : List α) (x : α) : omap f (l ++ [x]) = match omap f l with | none => none | some ys => match f x with | none => none | some y => some (ys ++ [y]) := by
  induction l with
  | nil => simp only [List.nil_append, omap]
  | cons z l ih =>
    rw [List.cons_append, omap, omap, ih]
    cases f z with
    | none => rfl
    | some y => cases omap f l with
      | none => rfl
      | some ys => cases f x <;> rfl
theorem omap_none {l : List α} {x : α} (hx : x ∈ l) (h : f x = none) : omap f l = none := by
  induction l with
  | nil => cases hx
  | cons z l ih =>
    rw [omap]
    rcases List.mem_cons.1 hx with rfl | hx
    · rw [h]
    · rw [ih hx]; cases f z <;> rfl
theorem omap_len {l : List α} {ys : List β} (h : omap f l = some ys) : ys.length = l.length := by
  induction l generalizing ys with
  | nil => simp [omap] at h; subst h; rfl
  | cons z l ih =>
    rw [omap] at h
    cases hz : f z with
    | none => rw [hz] at h; cases h
    | some y =>
      rw [hz] at h
      cases hl : omap f l with
      | none => rw [hl] at h; cases h
      | some zs =>
        rw [hl] at h
        injection h with h
        subst h
        rw [List.length_cons, List.length_cons, ih hl]
theorem omap_mem {l : List α} {ys : List β} (h : omap f l = some ys) {y : β} (hy : y ∈ ys) : ∃ x ∈ l, f x = some y := by
  induction l generalizing ys with
  | nil => simp [omap] at h; subst h; cases hy
  | cons z l ih =>
    rw [omap] at h
    cases hz : f z with
    | none => rw [hz] at h; cases h
    | some u =>
      rw [hz] at h
      cases hl : omap f l with
      | none => rw [hl] at h; cases h
      | some zs =>
        rw [hl] at h
        injection h with h
        subst h
        rcases List.mem_cons.1 hy with rfl | hy
        · exact ⟨z, List.mem_cons_self, hz⟩
        · obtain ⟨x, hx, hf⟩ := ih hl hy
          exact ⟨x, List.mem_cons_of_mem _ hx, hf⟩
theorem omap_back {g : β → Option α} {l : List α} {ys : List β} (hg : ∀ x ∈ l, ∀ y, f x = some y → g y = some x) (h : omap f l = some ys) : omap g ys = some l := by
  induction l generalizing ys with
  | nil => simp [omap] at h; subst h; rfl
  | cons z l ih =>
    rw [omap] at h
    cases hz : f z with
    | none => rw [hz] at h; cases h
    | some u =>
      rw [hz] at h
      cases hl : omap f l with
      | none => rw [hl] at h; cases h
      | some zs =>
        rw [hl] at h
        injection h with h
        subst h
        rw [omap, hg z List.mem_cons_self u hz, ih (fun x hx => hg x (List.mem_cons_of_mem _ hx)) hl]
end
/-- Numbers as they stand, and back; with an error's number. -/
def dplain (l : List Int) (s : Bool) : Option (List Nat) := omap (eplain · s) l
def dmade (u : List Nat) (s : Bool) : Option (List Int) := omap (emade · s) u
def dplainE (l : List Int) (s : Bool) : List Nat × Int := match dplain l s with | none => ([], 1) | some u => (u, 0)
def dmadeE (u : List Nat) (s : Bool) : List Int × Int := match dmade u s with | none => ([], 2) | some l => (l, 0)
theorem dplain_lt {l : List Int} {s : Bool} {u : List Nat} (hl : ∀ x ∈ l, inInt x) (h : dplain l s = some u) : ∀ y ∈ u, y < 2 ^ 64 := by
  intro y hy
  obtain ⟨x, hx, hf⟩ := omap_mem h hy
  exact eplain_lt (hl x hx).1 (hl x hx).2 hf
theorem dplain_len {l : List Int} {s : Bool} {u : List Nat} (h : dplain l s = some u) : u.length = l.length := omap_len h
theorem dmade_len {u : List Nat} {s : Bool} {l : List Int} (h : dmade u s = some l) : l.length = u.length := omap_len h
theorem dmade_dplain {l : List Int} {s : Bool} {u : List Nat} (hl : ∀ x ∈ l, inInt x) (h : dplain l s = some u) : dmade u s = some l :=
  omap_back (fun x hx _ hy => emade_eplain (hl x hx).1 (hl x hx).2 hy) h
/-- A head. -/
def dheadN (k c m : Nat) : List UInt8 := be 2 (16384 * k + 512 * c + (m - 1))
def dhead (k c m : Int) : List UInt8 := if 0 ≤ k ∧ k ≤ 3 ∧ 0 ≤ c ∧ c ≤ 31 ∧ 1 ≤ m ∧ m ≤ 512 then dheadN k.toNat c.toNat m.toNat else []
theorem dhead_in {k c m : Nat} (hk : k ≤ 3) (hc : c ≤ 31) (h1 : 1 ≤ m) (hm : m ≤ 512) : dhead (k : Int) (c : Int) (m : Int) = dheadN k c m := by
  unfold dhead
  rw [if_pos (by omega)]
  simp
theorem dheadN_len (k c m : Nat) : (dheadN k c m).length = 2 := be_len _ _
/-- What a head's number says: the kind, the code, how many. -/
def dlook (l : List UInt8) : Int × Int × Int × List UInt8 × Int :=
  if l.length < 2 then (0, 0, 0, [], 2)
  else (((bval (l.take 2) / 16384 : Nat) : Int), ((bval (l.take 2) / 512 % 32 : Nat) : Int), ((bval (l.take 2) % 512 + 1 : Nat) : Int), l.drop 2, 0)
theorem dheadN_bval {k c m : Nat} (hk : k ≤ 3) (hc : c ≤ 31) (h1 : 1 ≤ m) (hm : m ≤ 512) : bval (dheadN k c m) = 16384 * k + 512 * c + (m - 1) := by
  unfold dheadN
  rw [bval_be, Nat.mod_eq_of_lt (by omega)]
theorem dlook_head {k c m : Nat} (hk : k ≤ 3) (hc : c ≤ 31) (h1 : 1 ≤ m) (hm : m ≤ 512) (b : List UInt8) : dlook (dheadN k c m ++ b) = ((k : Int), (c : Int), (m : Int), b, 0) := by
  have hl := dheadN_len k c m
  have ht : (dheadN k c m ++ b).take 2 = dheadN k c m := by rw [← hl]; simp
  have hd : (dheadN k c m ++ b).drop 2 = b := by rw [← hl]; simp
  unfold dlook
  rw [if_neg (by rw [List.length_append, hl]; omega), ht, hd, dheadN_bval hk hc h1 hm]
  have e1 : (16384 * k + 512 * c + (m - 1)) / 16384 = k := by omega
  have e2 : (16384 * k + 512 * c + (m - 1)) / 512 % 32 = c := by omega
  have e3 : (16384 * k + 512 * c + (m - 1)) % 512 + 1 = m := by omega
  rw [e1, e2, e3]
/-- The two bytes of a number, and what they say. -/
theorem bval_two {l : List UInt8} (h : 2 ≤ l.length) : bval (l.take 2) = 256 * l[0].toNat + l[1].toNat ∧ bval (l.take 2) < 65536 := by
  match l, h with
  | a :: b :: r, _ =>
    have h1 := a.toNat_lt
    have h2 := b.toNat_lt
    have e : bval ((a :: b :: r).take 2) = 256 * a.toNat + b.toNat := by
      show bval [a, b] = _
      simp [bval]
      omega
    rw [e]
    exact ⟨rfl, by omega⟩
/-- The closest width of numbers, and its code. -/
def dwide (u : List Nat) : Nat := (wclosest (wmost u : Int)).toNat
theorem dwide_int {u : List Nat} : wclosest (wmost u : Int) = (dwide u : Int) := by unfold dwide; have := (wclosest_bd (wmost u : Int)).1; omega
theorem foldl_top : ∀ (u : List Nat) (n : Nat), n ≤ u.foldl (fun n x => max n x) n ∧ ∀ x ∈ u, x ≤ u.foldl (fun n x => max n x) n
  | [], n => ⟨Nat.le_refl _, fun _ h => by cases h⟩
  | y :: u, n => by
    have h := foldl_top u (max n y)
    refine ⟨Nat.le_trans (Nat.le_max_left _ _) h.1, fun x hx => ?_⟩
    rcases List.mem_cons.1 hx with rfl | hx
    · exact Nat.le_trans (Nat.le_max_right _ _) h.1
    · exact h.2 x hx
theorem wtop_mem {u : List Nat} {x : Nat} (h : x ∈ u) : x ≤ wtop u := (foldl_top u 0).2 x h
theorem dwide_room {u : List Nat} (h : ∀ x ∈ u, x < 2 ^ 64) : 1 ≤ dwide u ∧ dwide u ≤ 64 ∧ (∀ x ∈ u, x < 2 ^ dwide u) := by
  have h1 := wroom ⟨wmost u, by have := wmost_64 h; omega⟩
  have h2 := wclosest_bd (wmost u : Int)
  have h3 := dwide_int (u := u)
  dsimp only at h1
  rw [h3] at h1 h2
  refine ⟨by omega, by omega, fun x hx => ?_⟩
  have h4 : x ≤ wtop u := by
    clear h1 h2 h3 h
    exact wtop_mem hx
  have h5 := (wbits_iff (wtop_lt h) (show dwide u ≤ 64 by omega)).1 (by rw [wtop_bits h]; omega)
  omega
def dcode (u : List Nat) : Nat := (wcode (dwide u : Int)).toNat
/-- The code of the closest width stands for it. -/
theorem wclose_code : ∀ n : Fin 65, 0 ≤ wcode (wclosest (n.val : Int)) ∧ wcode (wclosest (n.val : Int)) ≤ 31 ∧ wof (wcode (wclosest (n.val : Int))) = wclosest (n.val : Int) := by decide +kernel
theorem dcode_int {u : List Nat} (h : ∀ x ∈ u, x < 2 ^ 64) : wcode (dwide u : Int) = (dcode u : Int) ∧ dcode u ≤ 31 ∧ wof (dcode u : Int) = (dwide u : Int) := by
  have h1 := wclose_code ⟨wmost u, by have := wmost_64 h; omega⟩
  dsimp only at h1
  rw [dwide_int] at h1
  have h2 : wcode (dwide u : Int) = (dcode u : Int) := by unfold dcode; omega
  rw [h2] at h1
  exact ⟨h2, by omega, h1.2.2⟩
/-- What Put answers. -/
def dlay (u : List Nat) : List UInt8 := dheadN 1 (dcode u) u.length ++ bpack u (dwide u)
def dputE (l : List Int) (s : Bool) : List UInt8 × Int := match dplain l s with | none => ([], 1) | some u => if l.length < 1 ∨ 512 < l.length then ([], 1) else (dlay u, 0)
/-- What Take answers. -/
def dtakeE (l : List UInt8) (s : Bool) : List Int × List UInt8 × Int :=
  if (dlook l).2.2.2.2 ≠ 0 ∨ (dlook l).1 ≠ 1 then ([], [], 2)
  else match unpacksAny (dlook l).2.2.2.1 (dlook l).2.2.1 (wof (dlook l).2.1) with
    | (u, r, e) => if e ≠ 0 then ([], [], 2) else match dmade u s with | none => ([], [], 2) | some m => (m, r, 0)
theorem dtakeE_ok {l : List UInt8} {c m : Int} {r : List UInt8} {s : Bool} (h : dlook l = (1, c, m, r, 0)) {u : List Nat} {q : List UInt8} (hu : unpacksAny r m (wof c) = (u, q, 0)) {o : List Int} (hm : dmade u s = some o) : dtakeE l s = (o, q, 0) := by
  unfold dtakeE
  rw [h]
  dsimp only
  rw [if_neg (by decide), hu]
  dsimp only
  rw [if_neg (by decide), hm]
theorem dtake_lay {u : List Nat} {l : List Int} {s : Bool} (hu : ∀ x ∈ u, x < 2 ^ 64) (h1 : 1 ≤ u.length) (h2 : u.length ≤ 512) (hm : dmade u s = some l) (b : List UInt8) : dtakeE (dlay u ++ b) s = (l, b, 0) := by
  obtain ⟨hw1, hw2, hw3⟩ := dwide_room hu
  obtain ⟨_, hc2, hc3⟩ := dcode_int hu
  have hd : dlook (dlay u ++ b) = (1, (dcode u : Int), (u.length : Int), bpack u (dwide u) ++ b, 0) := by
    unfold dlay
    rw [List.append_assoc]
    exact dlook_head (k := 1) (by omega) hc2 h1 h2 _
  refine dtakeE_ok hd ?_ hm
  rw [hc3, unpacksAny_in _ _ _ (by omega) hw2]
  exact unpacks_back hw3 b
/-- P8.4. -/
theorem dtake_back {l : List Int} {s : Bool} {u : List Nat} (hl : ∀ x ∈ l, inInt x) (h1 : 1 ≤ l.length) (h2 : l.length ≤ 512) (h : dplain l s = some u) (b : List UInt8) : dtakeE (dlay u ++ b) s = (l, b, 0) :=
  dtake_lay (dplain_lt hl h) (by rw [dplain_len h]; exact h1) (by rw [dplain_len h]; exact h2) (dmade_dplain hl h) b
end Go.Proofs.YtnbiopihcbnkpaaGreatDoor

/- The contract of the reference's Pack. -/



namespace Go.Proofs.YtnbiopihcbnkpaaGreatDoor

open Go.RowKit

def RPackRel2 (g m t W V x : Nat) (w : World) (at_ k : Value) (wr : World) : Prop :=
  ∃ (j : Nat) (out : List UInt8), at_ = .int .i64 ((t + W - j : Nat) : Int) ∧ k = .int .i64 ((j : Int) - 1) ∧ j ≤ W ∧ out.length = m ∧ Row wr g 5 (out.map bv) ∧ bval out = (V * 2 ^ (W - j) + x / 2 ^ j) * 2 ^ (8 * m - (t + W - j)) ∧ Below w.heap.size w wr
def RPackRel (l : List Nat) (g m W : Nat) (w : World) (at_ i : Value) (wr : World) : Prop :=
  ∃ (k : Nat) (out : List UInt8), at_ = .int .i64 ((W * k : Nat) : Int) ∧ i = .int .i64 (k : Int) ∧ k ≤ l.length ∧ out.length = m ∧ Row wr g 5 (out.map bv) ∧ bval out = pval W (l.take k) * 2 ^ (8 * m - W * k) ∧ (∀ x ∈ l.take k, x < 2 ^ W) ∧ Below w.heap.size w wr
theorem bit_is (x K : Nat) (hx : x < 2 ^ 64) : bits .and .u64 ((x : Int) / 2 ^ K) 1 = ((x / 2 ^ K % 2 : Nat) : Int) := by
  have h := and_low x K 1 1 hx (by omega) rfl
  simpa using h
set_option maxHeartbeats 2000000 in
set_option maxRecDepth 100000 in
theorem rpack_own (A : Option Addr) (n c : Nat) (l : List Nat) (W : Nat) (w : World) (hn : l.length = n) (hn4 : n ≤ 4096) (hW : W ≤ 64) (hl : Lies w A (l.map uv)) (h64 : ∀ x ∈ l, x < 2 ^ 64) :
    Calls Tryz.prog 44 #[.slice A n c, .int .i64 (W : Int)] w (RetEO w (packs l W)) := by
  have HN := Lib.hid hn
  have H64 := Lib.hid h64
  clear hn h64
  obtain ⟨m, hm⟩ : ∃ m, m = bsize n W := ⟨_, rfl⟩
  have hmW : W * n ≤ 8 * m := by rw [hm]; exact bsize_le n W
  have hm4 : m ≤ 32768 := by have := prod_le hn4 hW; unfold bsize at hm; omega
  have hsz := fun w => rsize_in n W w hn4 hW
  rw [← hm] at hsz
  have HS := Lib.hid hsz
  have HM := Lib.hid hm
  have HMW := Lib.hid hmW
  clear hsz hm hmW
  have d1 : decide ((W : Int) < 0) = false := decide_eq_false (by omega)
  have d2 : decide ((64 : Int) < (W : Int)) = false := decide_eq_false (by omega)
  have d3 : decide ((4096 : Int) < (n : Int)) = false := decide_eq_false (by omega)
  go_enter Tryz.func44, Tryz.ntmps44
  go_wp2_with (first | (go_at_call 91; refine (HS.out _).mono ?_; rintro e w' ⟨rfl, rfl⟩) | (refine wpList_make elemB rfl _ _ rfl _ _ _ _ m w w.heap.size rfl rfl ?_ ?_ (by omega) (by omega) (Below.refl _ _) (Nat.le_refl _) ?_))
  · rfl
  · rfl
  intro w1 hr1 hb1
  have hr2 : Row w1 w.heap.size 5 ((List.replicate m (0 : UInt8)).map bv) := by simpa using hr1
  clear hr1
  go_wp2
  go_loopw [7, 8] (RPackRel l w.heap.size m W w) (fun _ i _ => n - (intOf i).toNat)
  case atStart => exact ⟨0, List.replicate m 0, rfl, rfl, by omega, by simp, hr2, by rw [bval_zeros]; simp [pval], by simp, hb1⟩
  case round =>
    obtain ⟨k, out, rfl, rfl, hk, hlen, hr, hval, hall, hb⟩ := hrel
    have HV := Lib.hid hval
    have HA := Lib.hid hall
    have HLen := Lib.hid hlen
    clear hval hall hr2 hb1 hlen
    have hk' : k ≤ n := by have := HN.out; omega
    by_cases hlt : k < n
    · have hkl : k < l.length := by have := HN.out; omega
      obtain ⟨ad, rfl, hadlt, hcell⟩ := hl.cell (k := k) (by simpa using hkl)
      obtain ⟨x, hx⟩ : ∃ x : Nat, x = l[k] := ⟨_, rfl⟩
      have hcx0 : w.cell? (ad.add k) = some (.int .u64 (x : Int)) := by rw [hcell, List.getElem_map, hx]; rfl
      have hcx : wr.cell? (ad.add k) = some (.int .u64 (x : Int)) := (hb.cell (by rw [add_block]; exact hadlt)).trans hcx0
      have hxm : x ∈ l := by rw [hx]; exact List.getElem_mem hkl
      have HX := Lib.hid hx
      clear hx hcell
      by_cases hx2 : x < 2 ^ W
      · have hz : (x : Int) / 2 ^ W = 0 := by
          have : ((x / 2 ^ W : Nat) : Int) = 0 := by rw [Nat.div_eq_of_lt hx2]; rfl
          simpa using this
        have hstep : W * k + W ≤ 8 * m := by
          have h1 : W * (k + 1) ≤ W * n := Nat.mul_le_mul_left _ hlt
          have := HMW.out
          rw [Nat.mul_add, Nat.mul_one] at h1
          omega
        have HX2 := Lib.hid hx2
        clear hx2
        obtain ⟨V, hV⟩ : ∃ V, V = pval W (l.take k) := ⟨_, rfl⟩
        obtain ⟨t, ht⟩ : ∃ t, t = W * k := ⟨_, rfl⟩
        rw [← ht] at hstep ⊢
        have HVV := Lib.hid hV
        have HTT := Lib.hid ht
        clear hV ht
        have hst : RPackRel2 w.heap.size m t W V x w (.int .i64 (t : Int)) (.int .i64 ((W : Int) - 1)) wr := by
          refine ⟨W, out, by rw [Nat.add_sub_cancel], rfl, Nat.le_refl _, HLen.out, hr, ?_, hb⟩
          rw [Nat.add_sub_cancel, Nat.sub_self, Nat.pow_zero, Nat.mul_one, Nat.div_eq_of_lt HX2.out, Nat.add_zero, HVV.out, HTT.out]
          exact HV.out
        rcases (show decide ((W : Int) < 64) = true ∨ decide ((W : Int) < 64) = false by cases decide ((W : Int) < 64) <;> simp) with hd64 | hd64
        all_goals
          go_wp2
          go_loopw [7, 9] (RPackRel2 w.heap.size m t W V x w) (fun _ k _ => (intOf k + 1).toNat)
          case atStart => exact hst
          case round =>
            obtain ⟨j, o, rfl, rfl, hj, hlen, hr, hval, hb⟩ := hrel
            obtain ⟨T, hT⟩ : ∃ T, T = t + W - j := ⟨_, rfl⟩
            rw [← hT] at hval ⊢
            have HT := Lib.hid hT
            have HVal := Lib.hid hval
            have HLe := Lib.hid hlen
            clear hT hval hlen
            have hcx2 : wr.cell? (ad.add k) = some (.int .u64 (x : Int)) := (hb.cell (by rw [add_block]; exact hadlt)).trans hcx0
            by_cases hj0 : 0 < j
            · obtain ⟨K, rfl⟩ : ∃ K, j = K + 1 := ⟨j - 1, by omega⟩
              rw [show ((K + 1 : Nat) : Int) - 1 = (K : Int) by omega]
              have hT8 : T + 1 ≤ 8 * m := by have := HT.out; omega
              obtain ⟨β, hβ⟩ : ∃ β, β = x / 2 ^ K % 2 := ⟨_, rfl⟩
              have hbit := bit_is x K (H64.out x hxm)
              rw [← hβ] at hbit
              have HBe := Lib.hid hβ
              rcases (show β = 0 ∨ β = 1 by omega) with rfl | rfl
              · clear hβ
                go_wp2
                go_roundw
                case rel =>
                  have hT2 : T + 1 = t + W - K := by have := HT.out; omega
                  refine ⟨K, o, by rw [← hT2]; go_num, rfl, by omega, HLe.out, hr, ?_, hb⟩
                  have h1 := piece_step V x W (K + 1) 1 hj (by omega)
                  rw [Nat.add_sub_cancel, Nat.pow_one, ← HBe.out] at h1
                  rw [HVal.out, step_zero _ m T hT8, ← hT2, Nat.pow_one, h1]
                case measure => simp [intOf]
              · clear hβ
                go_wp2
                refine wp_region_tail 13 (by kernel_rfl) (by kernel_rfl) ?_
                have hr2 : Row wr.drew w.heap.size 5 (o.map bv) := hr
                have hb2 : Below w.heap.size w wr.drew := hb.drew
                clear hr hb hcx2
                generalize wr.drew = w2 at *
                obtain ⟨q, hq⟩ : ∃ q, q = T / 8 := ⟨_, rfl⟩
                obtain ⟨e, he⟩ : ∃ e, e = T % 8 := ⟨_, rfl⟩
                obtain ⟨r, hr'⟩ : ∃ r, r = 8 - T % 8 := ⟨_, rfl⟩
                obtain ⟨d, hd⟩ : ∃ d, d = r - 1 := ⟨_, rfl⟩
                obtain ⟨hqo, hl1, hl2, hl3, hl4⟩ := laid_at (n := 1) (piece := 1) hq hr' hd HLe.out (by omega) (by omega) hT8 (by omega) HVal.out
                have hqi : (T : Int) / 8 = (q : Int) := by omega
                have hei : (T : Int) % 8 = (e : Int) := by omega
                have hwq : IntKind.i64.wrap (q : Int) = (q : Int) := by rw [IntKind.wrap_i64]; omega
                have htm : (T : Int).tmod 8 = (e : Int) := by rw [Int.tmod_eq_emod_of_nonneg (by omega)]; exact hei
                have hwe : IntKind.i64.wrap (e : Int) = (e : Int) := by rw [IntKind.wrap_i64]; omega
                have hqm : (q : Int) < (m : Int) := by omega
                have he8 : e < 8 := by omega
                obtain ⟨D, hD⟩ : ∃ D, D = 2 ^ d := ⟨_, rfl⟩
                have hsr : (128 : Int) / 2 ^ e = (D : Int) := by rw [shr128 e he8, hD, show 7 - e = d by omega]
                rw [Nat.one_mul, ← hD] at hl2 hl3 hl4
                obtain ⟨B, hB⟩ : ∃ B, B = o[q].toNat := ⟨_, rfl⟩
                have hcB : w2.cell? ⟨w.heap.size, q, none⟩ = some (.int .u8 (B : Int)) := by
                  rw [hr2.cell, List.getElem?_map, List.getElem?_eq_getElem hqo, hB]; rfl
                have hfB := hr2.free q
                rw [← hB] at hl2 hl4
                obtain ⟨C, hC⟩ : ∃ C, C = B + D := ⟨_, rfl⟩
                have hadd : IntKind.u8.wrap ((B : Int) + (D : Int)) = (C : Int) := by rw [IntKind.wrap_u8]; omega
                have hadd2 : ((B : Int) + (D : Int)) % 256 = (C : Int) := by omega
                rw [← hC] at hl2 hl4
                have HL4 := Lib.hid hl4
                have HL2 := Lib.hid hl2
                clear hq he hr' hd hD hB hC hl1 hl2 hl3 hl4
                simp only [List.take_succ_cons, List.take_zero, List.drop_succ_cons, List.drop_zero]
                repeat still_step
                refine wpStill_nil ?_
                go_wp2
                go_roundw
                case rel =>
                  have hT2 : T + 1 = t + W - K := by have := HT.out; omega
                  refine ⟨K, o.set q (UInt8.ofNat C), by rw [← hT2]; go_num, rfl, by omega, by rw [List.length_set]; exact HLe.out, row_set hr2 q C HL2.out, ?_, hb2.setCell (Nat.le_refl _) _⟩
                  have h1 := piece_step V x W (K + 1) 1 hj (by omega)
                  rw [Nat.add_sub_cancel, Nat.pow_one, ← HBe.out] at h1
                  rw [HL4.out, ← hT2, Nat.pow_one, h1]
                case measure => simp [intOf]
            · obtain rfl : j = 0 := by omega
              go_wp2
              go_roundw
              case rel =>
                have hT2 : T = W * (k + 1) := by have := HT.out; rw [Nat.mul_add, Nat.mul_one]; have := HTT.out; omega
                refine ⟨k + 1, o, by rw [hT2], by go_num, by omega, HLe.out, hr, ?_, ?_, hb⟩
                · rw [HVal.out, Nat.sub_zero, Nat.pow_zero, Nat.div_one, List.take_succ_eq_append_getElem hkl, pval_snoc, ← HX.out, ← HVV.out, hT2]
                · intro y hy
                  rw [List.take_succ_eq_append_getElem hkl, List.mem_append] at hy
                  rcases hy with hy | hy
                  · exact HA.out y hy
                  · rw [List.mem_singleton.1 hy, ← HX.out]; exact HX2.out
              case measure => simp [intOf]; omega
      · obtain ⟨y, hy⟩ : ∃ y, y = x / 2 ^ W := ⟨_, rfl⟩
        have hz : (x : Int) / 2 ^ W = (y : Int) := by rw [hy]; simp
        have hy0 : y ≠ 0 := by
          rw [hy]
          intro h
          rcases Nat.div_eq_zero_iff.1 h with h | h
          · have := Nat.two_pow_pos W; omega
          · exact hx2 h
        have hW64 : (W : Int) < 64 := by
          have h1 := H64.out x hxm
          rcases (show W < 64 ∨ W = 64 by omega) with h | h
          · omega
          · rw [h] at hx2; exact absurd h1 hx2
        have e1 : ((y : Int) != 0) = true := by simpa using hy0
        have HNo := Lib.hid (packs_no hxm hx2)
        clear hx2 hy hy0
        go_wp2
        go_ret2
        rw [HNo.out]
        exact RetEO.nil _ hb
    · obtain rfl : k = n := by omega
      have hall : ∀ x ∈ l, x < 2 ^ W := by
        have := HA.out
        rw [List.take_of_length_le (by have := HN.out; omega)] at this
        exact this
      have HAll := Lib.hid hall
      clear hall
      go_wp2
      go_ret2
      rw [packs_ok HAll.out]
      have hv := HV.out
      rw [List.take_of_length_le (by have := HN.out; omega)] at hv
      have hob : out = bpack l W := by
        unfold bpack
        rw [HN.out, ← HM.out]
        exact eq_be HLen.out hv
      exact ⟨_, rfl, by rw [← hob, HLen.out]; exact own_of_row hr (by rw [List.length_map]; exact HLen.out) (Nat.le_refl _) (by omega), hb⟩
theorem rpack_out (A : Option Addr) (n c : Nat) (W : Int) (w : World) (hW : W < 0 ∨ 64 < W) :
    Calls Tryz.prog 44 #[.slice A n c, .int .i64 W] w (RetEO w ([], 1)) := by
  rcases hW with h | h
  · have d1 : decide (W < 0) = true := decide_eq_true (by omega)
    go_enter Tryz.func44, Tryz.ntmps44
    go_wp2
    go_ret2
    exact RetEO.nil _ (Below.refl _ _)
  · have d1 : decide (W < 0) = false := decide_eq_false (by omega)
    have d2 : decide (64 < W) = true := decide_eq_true (by omega)
    go_enter Tryz.func44, Tryz.ntmps44
    go_wp2
    go_ret2
    exact RetEO.nil _ (Below.refl _ _)
theorem rpack_isO {l : List Nat} {v : Value} {w : World} (W : Int) (hl : IsU l v w) (h4 : l.length ≤ 4096) (h64 : ∀ x ∈ l, x < 2 ^ 64) :
    Calls Tryz.prog 44 #[v, .int .i64 W] w (RetEO w (packsAny l W)) := by
  obtain ⟨A, c, rfl, _, _, _, h3⟩ := hl
  by_cases h : W < 0 ∨ 64 < W
  · unfold packsAny
    rw [if_pos h]
    exact rpack_out _ _ _ _ _ h
  · obtain ⟨K, rfl⟩ := Int.eq_ofNat_of_zero_le (show 0 ≤ W by omega)
    rw [packsAny_in _ _ (by omega)]
    exact rpack_own A _ c l K w rfl h4 (by omega) h3 h64
theorem rpack_is {l : List Nat} {v : Value} {w : World} (W : Int) (hl : IsU l v w) (h4 : l.length ≤ 4096) (h64 : ∀ x ∈ l, x < 2 ^ 64) :
    Calls Tryz.prog 44 #[v, .int .i64 W] w (RetE w (packsAny l W)) := (rpack_isO W hl h4 h64).mono fun _ _ h => h.e
end Go.Proofs.YtnbiopihcbnkpaaGreatDoor

/- Numbers that rise, or fall (layer 9), as plain mathematics. -/





namespace Go.Proofs.YtnbiopihcbnkpaaGreatDoor

/-- By how much, whether it falls, whether that is a difference. -/
def gdiff (a b : Int) : Nat × Bool × Bool :=
  if b < a then (if 9223372036854775808 ≤ a - b then (0, false, false) else ((a - b).toNat, true, true))
  else if 9223372036854775808 ≤ b - a then (0, false, false) else ((b - a).toNat, false, true)
def gstep (a : Int) (u : Nat) (f : Bool) : Int × Bool :=
  if 9223372036854775808 ≤ (u : Int) then (0, false)
  else if f = true then (if a < -9223372036854775808 + (u : Int) then (0, false) else (a - u, true))
  else if 9223372036854775807 - (u : Int) < a then (0, false) else (a + u, true)
theorem gdiff_cases (a b : Int) : (gdiff a b = (0, false, false) ∧ (9223372036854775808 ≤ a - b ∨ 9223372036854775808 ≤ b - a)) ∨
    (b < a ∧ a - b < 9223372036854775808 ∧ gdiff a b = ((a - b).toNat, true, true)) ∨ (a ≤ b ∧ b - a < 9223372036854775808 ∧ gdiff a b = ((b - a).toNat, false, true)) := by
  unfold gdiff
  by_cases h : b < a
  · rw [if_pos h]
    by_cases h2 : 9223372036854775808 ≤ a - b
    · rw [if_pos h2]; exact .inl ⟨rfl, .inl h2⟩
    · rw [if_neg h2]; exact .inr (.inl ⟨h, by omega, rfl⟩)
  · rw [if_neg h]
    by_cases h2 : 9223372036854775808 ≤ b - a
    · rw [if_pos h2]; exact .inl ⟨rfl, .inr h2⟩
    · rw [if_neg h2]; exact .inr (.inr ⟨by omega, by omega, rfl⟩)
theorem gdiff_lt (a b : Int) : ((gdiff a b).1 : Int) < 9223372036854775808 := by
  rcases gdiff_cases a b with ⟨h, _⟩ | ⟨h1, h2, h⟩ | ⟨h1, h2, h⟩ <;> rw [h] <;> dsimp only <;> omega
theorem gdiff_lt64 (a b : Int) : (gdiff a b).1 < 2 ^ 64 := by
  have := gdiff_lt a b
  show (gdiff a b).1 < 18446744073709551616
  omega
theorem gstep_bd {a : Int} {u : Nat} {f : Bool} (ha : inInt a) : inInt (gstep a u f).1 := by
  unfold inInt at ha ⊢
  unfold gstep
  split
  · exact ⟨by omega, by omega⟩
  · split
    · split
      · exact ⟨by omega, by omega⟩
      · exact ⟨by dsimp only; omega, by dsimp only; omega⟩
    · split
      · exact ⟨by omega, by omega⟩
      · exact ⟨by dsimp only; omega, by dsimp only; omega⟩
/-- P9.1: a difference leads from the one to the other. -/
theorem gstep_gdiff {a b : Int} (hb : inInt b) (h : (gdiff a b).2.2 = true) : gstep a (gdiff a b).1 (gdiff a b).2.1 = (b, true) := by
  unfold inInt at hb
  rcases gdiff_cases a b with ⟨h3, _⟩ | ⟨h1, h2, h3⟩ | ⟨h1, h2, h3⟩
  · rw [h3] at h; cases h
  · rw [h3]
    dsimp only
    unfold gstep
    have e : (((a - b).toNat : Nat) : Int) = a - b := by omega
    rw [e, if_neg (by omega), if_pos rfl, if_neg (by omega)]
    congr 1
    omega
  · rw [h3]
    dsimp only
    unfold gstep
    have e : (((b - a).toNat : Nat) : Int) = b - a := by omega
    rw [e, if_neg (by omega), if_neg (by decide), if_neg (by omega)]
    congr 1
    omega
theorem gdiff_self (a : Int) : gdiff a a = (0, false, true) := by unfold gdiff; rw [if_neg (by omega), if_neg (by omega)]; simp
/-- A size, of two numbers one behind the other, if they fall, or rise, as is said. -/
def gone (f : Bool) (a b : Int) : Option Nat := if (gdiff a b).2.2 = true ∧ ((gdiff a b).1 = 0 ∨ (gdiff a b).2.1 = f) then some (gdiff a b).1 else none
theorem gone_yes {f : Bool} {a b : Int} (h : (gdiff a b).2.2 = true) (h2 : (gdiff a b).1 = 0 ∨ (gdiff a b).2.1 = f) : gone f a b = some (gdiff a b).1 := if_pos ⟨h, h2⟩
theorem gone_not {f : Bool} {a b : Int} (h : ¬ ((gdiff a b).2.2 = true ∧ ((gdiff a b).1 = 0 ∨ (gdiff a b).2.1 = f))) : gone f a b = none := if_neg h
theorem gone_lt {f : Bool} {a b : Int} {u : Nat} (h : gone f a b = some u) : (u : Int) < 9223372036854775808 := by
  unfold gone at h
  split at h
  · injection h with h; rw [← h]; exact gdiff_lt a b
  · cases h
theorem gone_step {f : Bool} {a b : Int} {u : Nat} (ha : inInt a) (hb : inInt b) (h : gone f a b = some u) : gstep a u f = (b, true) := by
  unfold gone at h
  split at h
  · rename_i hh
    injection h with h
    subst h
    have hs := gstep_gdiff hb hh.1
    rcases hh.2 with h0 | h0
    · rcases gdiff_cases a b with ⟨k, _⟩ | ⟨k1, k2, k⟩ | ⟨k1, k2, k⟩
      · rw [k] at hh; cases hh.1
      · rw [k] at h0; dsimp only at h0; omega
      · rw [k] at h0
        dsimp only at h0
        have e : a = b := by omega
        subst e
        rw [gdiff_self]
        unfold inInt at ha
        unfold gstep
        rw [if_neg (by decide)]
        dsimp only
        cases f
        · rw [if_neg (by decide), if_neg (by omega)]; simp
        · rw [if_pos rfl, if_neg (by omega)]; simp
    · rw [h0] at hs; exact hs
  · cases h
def gat (l : List Int) (f : Bool) (i : Nat) : Option Nat := gone f (l.getD i 0) (l.getD (i + 1) 0)
/-- The sizes of numbers. -/
def gsizes (l : List Int) (f : Bool) (k : Nat) : Option (List Nat) := omap (gat l f) (List.range k)
theorem gsizes_succ {l : List Int} {f : Bool} {k : Nat} {us : List Nat} {u : Nat} (h : gsizes l f k = some us) (hu : gat l f k = some u) : gsizes l f (k + 1) = some (us ++ [u]) := by
  unfold gsizes at *
  rw [List.range_succ, omap_snoc, h, hu]
theorem gsizes_none {l : List Int} {f : Bool} {k n : Nat} (hk : k < n) (h : gat l f k = none) : gsizes l f n = none := omap_none (List.mem_range.2 hk) h
theorem gsizes_len {l : List Int} {f : Bool} {k : Nat} {us : List Nat} (h : gsizes l f k = some us) : us.length = k := by rw [omap_len h, List.length_range]
theorem gsizes_lt {l : List Int} {f : Bool} {k : Nat} {us : List Nat} (h : gsizes l f k = some us) : ∀ u ∈ us, (u : Int) < 9223372036854775808 := by
  intro u hu
  obtain ⟨i, _, hi⟩ := omap_mem h hu
  exact gone_lt hi
theorem gsizes_64 {l : List Int} {f : Bool} {k : Nat} {us : List Nat} (h : gsizes l f k = some us) : ∀ u ∈ us, u < 2 ^ 64 := by
  intro u hu
  have := gsizes_lt h u hu
  show u < 18446744073709551616
  omega
def gfalls (l : List Int) : Bool := decide (l.getD 1 0 < l.getD 0 0)
/-- Are all sizes the same? -/
def gall (us : List Nat) : Bool := us.all fun u => u == us.headD 0
def gwide (us : List Nat) : Nat := (wclosest (max 2 (wmost us) : Nat)).toNat
def gcode (us : List Nat) : Nat := (wcode (gwide us : Int)).toNat
/-- A code and a width that stand for one another, for so many bits. -/
theorem gwide_code : ∀ n : Fin 65, 2 ≤ n.val → 2 ≤ wclosest (n.val : Int) ∧ wclosest (n.val : Int) ≤ 64 ∧ 1 ≤ wcode (wclosest (n.val : Int)) ∧ wcode (wclosest (n.val : Int)) ≤ 31 ∧ wof (wcode (wclosest (n.val : Int))) = wclosest (n.val : Int) ∧ (n.val : Int) ≤ wclosest (n.val : Int) := by decide +kernel
theorem gwide_int {us : List Nat} (h : ∀ u ∈ us, u < 2 ^ 64) : wclosest ((max 2 (wmost us) : Nat) : Int) = (gwide us : Int) ∧ wcode (gwide us : Int) = (gcode us : Int) ∧ wof (gcode us : Int) = (gwide us : Int) ∧ 2 ≤ gwide us ∧ gwide us ≤ 64 ∧ 1 ≤ gcode us ∧ gcode us ≤ 31 ∧ wmost us ≤ gwide us := by
  have hm := wmost_64 h
  have h1 := gwide_code ⟨max 2 (wmost us), by omega⟩ (Nat.le_max_left _ _)
  dsimp only at h1
  have e1 : wclosest ((max 2 (wmost us) : Nat) : Int) = (gwide us : Int) := by unfold gwide; omega
  rw [e1] at h1
  have e2 : wcode (gwide us : Int) = (gcode us : Int) := by unfold gcode; omega
  rw [e2] at h1
  exact ⟨e1, e2, h1.2.2.2.2.1, by omega, by omega, by omega, by omega, by omega⟩
theorem gwide_room {us : List Nat} (h : ∀ u ∈ us, u < 2 ^ 64) : ∀ u ∈ us, u < 2 ^ gwide us := by
  obtain ⟨_, _, _, _, h1, _, _, h2⟩ := gwide_int h
  intro u hu
  have h3 := (wbits_iff (wtop_lt h) h1).1 (by rw [wtop_bits h]; exact h2)
  exact Nat.lt_of_le_of_lt (wtop_mem hu) h3
/-- The first difference, as a number with its sign. -/
def gfirst (l : List Int) (us : List Nat) : Int := if gfalls l = true then -(us.headD 0 : Int) else (us.headD 0 : Int)
def gtail (us : List Nat) : List UInt8 := if gall us = true then [] else bpack us.tail (gwide us.tail)
def gnum (us : List Nat) : Nat := if gall us = true then 0 else gcode us.tail
def glay (l : List Int) (s : Bool) (us : List Nat) : List UInt8 := dheadN 3 (gnum us) l.length ++ vput (vint (l.headD 0) s) ++ vput (vint (gfirst l us) true) ++ gtail us
/-- What Put answers. -/
def gputE (l : List Int) (s : Bool) : List UInt8 × Int :=
  if dplain l s = none ∨ l.length < 2 ∨ 512 < l.length then ([], 1)
  else match gsizes l (gfalls l) (l.length - 1) with | none => ([], 1) | some us => (glay l s us, 0)
theorem gputE_no {l : List Int} {s : Bool} (h : dplain l s = none ∨ l.length < 2 ∨ 512 < l.length) : gputE l s = ([], 1) := if_pos h
theorem gputE_none {l : List Int} {s : Bool} (h : gsizes l (gfalls l) (l.length - 1) = none) : gputE l s = ([], 1) := by unfold gputE; split <;> simp [h]
theorem gputE_some {l : List Int} {s : Bool} {us : List Nat} (h1 : dplain l s ≠ none) (h2 : 2 ≤ l.length) (h3 : l.length ≤ 512) (h : gsizes l (gfalls l) (l.length - 1) = some us) : gputE l s = (glay l s us, 0) := by
  unfold gputE
  rw [if_neg (by rintro (h | h | h) <;> first | exact h1 h | omega), h]
/-- The next number. -/
def gnext (s f : Bool) (x : Int) (u : Nat) : Option Int := if (gstep x u f).2 = true ∧ (s = true ∨ 0 ≤ (gstep x u f).1) then some (gstep x u f).1 else none
def gwalk (s f : Bool) : Int → List Nat → Option (List Int)
  | _, [] => some []
  | x, u :: us => match gnext s f x u with | none => none | some y => (gwalk s f y us).map (y :: ·)
def glast : Int → List Int → Int
  | x, [] => x
  | _, y :: ys => glast y ys
theorem glast_snoc (x : Int) (ys : List Int) (y : Int) : glast x (ys ++ [y]) = y := by
  induction ys generalizing x with
  | nil => rfl
  | cons z zs ih => exact ih z
theorem gwalk_snoc (s f : Bool) (x : Int) (us : List Nat) (u : Nat) : gwalk s f x (us ++ [u]) = match gwalk s f x us with | none => none | some ys => match gnext s f (glast x ys) u with | none => none | some y => some (ys ++ [y]) := by
  induction us generalizing x with
  | nil =>
    simp only [List.nil_append, gwalk, glast]
    cases gnext s f x u <;> rfl
  | cons v us ih =>
    simp only [List.cons_append, gwalk]
    cases gnext s f x v with
    | none => rfl
    | some y =>
      dsimp only
      rw [ih]
      cases gwalk s f y us with
      | none => rfl
      | some ys =>
        simp only [Option.map_some, glast]
        cases gnext s f (glast y ys) u <;> rfl
theorem gwalk_len {s f : Bool} : ∀ {us : List Nat} {x : Int} {ys : List Int}, gwalk s f x us = some ys → ys.length = us.length
  | [], x, ys, h => by simp [gwalk] at h; subst h; rfl
  | u :: us, x, ys, h => by
    rw [gwalk] at h
    cases hn : gnext s f x u with
    | none => rw [hn] at h; cases h
    | some y =>
      rw [hn] at h
      dsimp only at h
      cases hw : gwalk s f y us with
      | none => rw [hw] at h; cases h
      | some zs =>
        rw [hw] at h
        simp at h
        subst h
        simp [gwalk_len hw]
theorem gwalk_take_none {s f : Bool} {x : Int} {us : List Nat} {k : Nat} (h : gwalk s f x (us.take k) = none) : gwalk s f x us = none := by
  induction us generalizing x k with
  | nil => simp [gwalk] at h
  | cons u us ih =>
    cases k with
    | zero => simp [gwalk] at h
    | succ k =>
      rw [List.take_succ_cons, gwalk] at h
      rw [gwalk]
      cases hn : gnext s f x u with
      | none => rfl
      | some y =>
        rw [hn] at h
        dsimp only at h ⊢
        cases hw : gwalk s f y (us.take k) with
        | none => rw [ih hw]; rfl
        | some zs => rw [hw] at h; cases h
/-- What Take answers. -/
def gbad : List Int × List UInt8 × Int := ([], [], 2)
def gend (s f : Bool) (x : Int) (us : List Nat) (q : List UInt8) : List Int × List UInt8 × Int := match gwalk s f x us with | none => gbad | some ys => (x :: ys, q, 0)
def gmore (s f : Bool) (x : Int) (u : Nat) (c m : Int) (r : List UInt8) : List Int × List UInt8 × Int :=
  if 0 < c then match unpacksAny r (m - 2) (wof c) with | (us, q, e) => if e ≠ 0 then gbad else gend s f x (u :: us) q
  else gend s f x (List.replicate (m - 1).toNat u) r
def gbody (s : Bool) (c m : Int) (r : List UInt8) : List Int × List UInt8 × Int :=
  match vtint r s with
  | none => gbad
  | some (x, r1) => match vtint r1 true with
    | none => gbad
    | some (d, r2) => if (gdiff 0 d).2.2 = true then gmore s (gdiff 0 d).2.1 x (gdiff 0 d).1 c m r2 else gbad
def gtakeE (l : List UInt8) (s : Bool) : List Int × List UInt8 × Int :=
  if (dlook l).2.2.2.2 ≠ 0 ∨ (dlook l).1 ≠ 3 ∨ (dlook l).2.2.1 < 2 then gbad else gbody s (dlook l).2.1 (dlook l).2.2.1 (dlook l).2.2.2.1

theorem vtint_put {x : Int} {s : Bool} (hx : inInt x) (h : s = true ∨ 0 ≤ x) (r : List UInt8) : vtint (vput (vint x s) ++ r) s = some (x, r) := by
  unfold inInt at hx
  cases s with
  | true =>
    have hb := vzig_bd hx.1 hx.2
    have e : vint x true = (vzig x).toNat := rfl
    rw [e, vtint_true (vtake_put (by omega) r), Int.toNat_of_nonneg hb.1, vzag_vzig]
  | false =>
    have h0 : 0 ≤ x := h.elim (fun h => nomatch h) id
    have e : vint x false = (x % 18446744073709551616).toNat := rfl
    have e2 : x % 18446744073709551616 = x := by omega
    rw [e, e2, vtint_small (vtake_put (by omega) r) (by omega), Int.toNat_of_nonneg h0]
theorem gnext_of {s f : Bool} {a b : Int} {u : Nat} (ha : inInt a) (hb : inInt b) (hs : s = true ∨ 0 ≤ b) (h : gone f a b = some u) : gnext s f a u = some b := by
  unfold gnext
  rw [gone_step ha hb h]
  exact if_pos ⟨rfl, hs⟩
/-- Sizes lead from each number to the next one. -/
theorem gwalk_sizes {s f : Bool} {l : List Int} (hl : ∀ x ∈ l, inInt x ∧ (s = true ∨ 0 ≤ x)) : ∀ (k : Nat) (us : List Nat), k + 1 ≤ l.length → gsizes l f k = some us → gwalk s f (l.getD 0 0) us = some ((l.drop 1).take k) ∧ glast (l.getD 0 0) ((l.drop 1).take k) = l.getD k 0
  | 0, us, _, h => by simp [gsizes, omap] at h; subst h; simp [gwalk, glast]
  | k + 1, us, hk, h => by
    unfold gsizes at h
    rw [List.range_succ, omap_snoc] at h
    cases hg : omap (gat l f) (List.range k) with
    | none => rw [hg] at h; cases h
    | some vs =>
      rw [hg] at h
      dsimp only at h
      cases hu : gat l f k with
      | none => rw [hu] at h; cases h
      | some u =>
        rw [hu] at h
        injection h with h
        subst h
        obtain ⟨h1, h2⟩ := gwalk_sizes hl k vs (by omega) hg
        have hd : (l.drop 1).take (k + 1) = (l.drop 1).take k ++ [l.getD (k + 1) 0] := by
          rw [List.take_succ_eq_append_getElem (by rw [List.length_drop]; omega), List.getElem_drop]
          congr 2
          rw [List.getD_eq_getElem?_getD, List.getElem?_eq_getElem (show k + 1 < l.length by omega)]
          simp [Nat.add_comm]
        have hm : ∀ i, i < l.length → inInt (l.getD i 0) ∧ (s = true ∨ 0 ≤ l.getD i 0) := by
          intro i hi
          rw [List.getD_eq_getElem?_getD, List.getElem?_eq_getElem hi]
          exact hl _ (List.getElem_mem hi)
        refine ⟨?_, by rw [hd, glast_snoc]⟩
        rw [gwalk_snoc, h1, hd]
        dsimp only
        rw [h2, gnext_of (hm k (by omega)).1 (hm (k + 1) (by omega)).1 (hm (k + 1) (by omega)).2 hu]
theorem gall_same {us : List Nat} (h : gall us = true) : us = List.replicate us.length (us.headD 0) := by
  unfold gall at h
  rw [List.eq_replicate_iff]
  refine ⟨rfl, fun u hu => ?_⟩
  have := List.all_eq_true.1 h u hu
  simpa using this
/-- What the first size says: how much, and whether it falls. -/
theorem gfirst_diff {l : List Int} {us : List Nat} (h2 : 2 ≤ l.length) (h : gsizes l (gfalls l) (l.length - 1) = some us) : gdiff 0 (gfirst l us) = (us.headD 0, gfalls l, true) ∧ inInt (gfirst l us) := by
  obtain ⟨k, hk⟩ : ∃ k, l.length - 1 = k + 1 := ⟨l.length - 2, by omega⟩
  have h0 : gat l (gfalls l) 0 = some (us.headD 0) := by
    unfold gsizes at h
    rw [hk, List.range_succ_eq_map, omap] at h
    cases hz : gat l (gfalls l) 0 with
    | none => rw [hz] at h; cases h
    | some u =>
      rw [hz] at h
      dsimp only at h
      cases hr : omap (gat l (gfalls l)) ((List.range k).map Nat.succ) with
      | none => rw [hr] at h; cases h
      | some vs => rw [hr] at h; injection h with h; subst h; rfl
  have hlt := gone_lt h0
  have hf : gfalls l = true → 0 < us.headD 0 := by
    intro hf
    have hba : l.getD 1 0 < l.getD 0 0 := of_decide_eq_true hf
    unfold gat gone at h0
    split at h0
    · injection h0 with h0
      rename_i hh
      rcases gdiff_cases (l.getD 0 0) (l.getD (0 + 1) 0) with ⟨k, _⟩ | ⟨k1, k2, k⟩ | ⟨k1, k2, k⟩
      · rw [k] at hh; cases hh.1
      · rw [k] at h0; dsimp only at h0; omega
      · rw [Nat.zero_add] at k1; omega
    · cases h0
  unfold gfirst inInt
  generalize us.headD 0 = u at *
  cases hg : gfalls l with
  | true =>
    have := hf hg
    rw [if_pos rfl]
    refine ⟨?_, by omega, by omega⟩
    unfold gdiff
    rw [if_pos (by omega), if_neg (by omega)]
    congr 1
    omega
  | false =>
    rw [if_neg (by decide)]
    refine ⟨?_, by omega, by omega⟩
    unfold gdiff
    rw [if_neg (by omega), if_neg (by omega)]
    congr 1
/-- P9.4. -/
theorem gtake_back {l : List Int} {s : Bool} {us : List Nat} (hl : ∀ x ∈ l, inInt x ∧ (s = true ∨ 0 ≤ x)) (h2 : 2 ≤ l.length) (h5 : l.length ≤ 512) (h : gsizes l (gfalls l) (l.length - 1) = some us) (b : List UInt8) :
    gtakeE (glay l s us ++ b) s = (l, b, 0) := by
  obtain ⟨hd, hi⟩ := gfirst_diff h2 h
  have hul := gsizes_len h
  have h64 := gsizes_64 h
  have h64t : ∀ u ∈ us.tail, u < 2 ^ 64 := fun u hu => h64 u (List.mem_of_mem_tail hu)
  obtain ⟨hw, _⟩ := gwalk_sizes hl (l.length - 1) us (by omega) h
  obtain ⟨x0, l', rfl⟩ : ∃ x0 l', l = x0 :: l' := by cases l with | nil => simp at h2 | cons x0 l' => exact ⟨x0, l', rfl⟩
  have hw' : gwalk s (gfalls (x0 :: l')) x0 us = some l' := by
    rw [List.length_cons, Nat.add_sub_cancel] at hw
    simpa using hw
  have hx := hl x0 List.mem_cons_self
  have hcode : gnum us ≤ 31 := by
    unfold gnum
    split
    · omega
    · exact (gwide_int h64t).2.2.2.2.2.2.1
  have hlook : dlook (glay (x0 :: l') s us ++ b) = (3, (gnum us : Int), ((x0 :: l').length : Int), vput (vint x0 s) ++ (vput (vint (gfirst (x0 :: l') us) true) ++ (gtail us ++ b)), 0) := by
    unfold glay
    simp only [List.append_assoc]
    exact dlook_head (k := 3) (by omega) hcode (by omega) h5 _
  unfold gtakeE
  rw [hlook]
  dsimp only
  rw [if_neg (by omega)]
  unfold gbody
  rw [vtint_put hx.1 hx.2]
  dsimp only
  rw [vtint_put hi (.inl rfl)]
  dsimp only
  rw [hd]
  dsimp only
  rw [if_pos rfl]
  unfold gmore
  by_cases ha : gall us = true
  · have e1 : gnum us = 0 := by unfold gnum; rw [if_pos ha]
    have e2 : gtail us = [] := by unfold gtail; rw [if_pos ha]
    have e3 : List.replicate (((x0 :: l').length : Int) - 1).toNat (us.headD 0) = us := by
      rw [show (((x0 :: l').length : Int) - 1).toNat = us.length by omega]
      exact (gall_same ha).symm
    rw [e1, e2, if_neg (by omega), e3]
    unfold gend
    rw [hw']
    rfl
  · have e1 : gnum us = gcode us.tail := by unfold gnum; rw [if_neg ha]
    have e2 : gtail us = bpack us.tail (gwide us.tail) := by unfold gtail; rw [if_neg ha]
    obtain ⟨_, _, g3, g4, g5, g6, g7, _⟩ := gwide_int h64t
    have hut : (us.tail).length = (x0 :: l').length - 2 := by rw [List.length_tail]; omega
    have e4 : ((x0 :: l').length : Int) - 2 = ((us.tail).length : Int) := by omega
    have e5 : us = us.headD 0 :: us.tail := by cases us with | nil => simp at hul h2; omega | cons a t => rfl
    rw [e1, e2, if_pos (by omega), g3, e4, unpacksAny_in _ _ _ (by omega) g5, unpacks_back (gwide_room h64t)]
    dsimp only
    rw [if_neg (by decide), ← e5]
    unfold gend
    rw [hw']
end Go.Proofs.YtnbiopihcbnkpaaGreatDoor

/- Contracts of layer 8's reference: Head, Look, Plain, Made, Same. -/









namespace Go.Proofs.YtnbiopihcbnkpaaGreatDoor

open Go.RowKit

theorem isU_iff {l : List Nat} {v : Value} {w : World} : IsU l v w ↔ IsV uv l v w := Iff.rfl
theorem own_made (w : World) (e : TypeId) : (w.alloc (.cells #[] e)).ownsRow w.heap.size e 1 (.slice (some ⟨w.heap.size, 0, none⟩) 0 0) 0 [] := World.ownsRow_made w #[] 0 (Nat.le_refl _) (by unfold maxLen; omega) (by simp)
/-- What Look answers: three numbers, bytes, an error. -/
def RetK (w : World) (p : Int × Int × Int × List UInt8 × Int) (e : Ending) (w' : World) : Prop :=
  ∃ v, e = .returned (.tuple #[.int .i64 p.1, .int .i64 p.2.1, .int .i64 p.2.2.1, v, .int .i64 p.2.2.2.2]) ∧ IsB p.2.2.2.1 v w' ∧ Below w.heap.size w w'
theorem dlook_short {l : List UInt8} (h : l.length < 2) : dlook l = (0, 0, 0, [], 2) := by unfold dlook; rw [if_pos h]
theorem dlook_long {l : List UInt8} {X : Nat} (h : 2 ≤ l.length) (hX : X = 256 * l[0].toNat + l[1].toNat) : dlook l = (((X / 16384 : Nat) : Int), ((X / 512 % 32 : Nat) : Int), ((X % 512 + 1 : Nat) : Int), l.drop 2, 0) := by
  unfold dlook
  rw [if_neg (by omega), (bval_two h).1, ← hX]
set_option maxHeartbeats 2000000 in
set_option maxRecDepth 100000 in
theorem rlook8_any (l : List UInt8) (v : Value) (w : World) (hv : IsB l v w) (hb : l.length ≤ 1000000) :
    Calls Tryz.prog 93 #[v] w (RetK w (dlook l)) := by
  obtain ⟨A, c, rfl, hA, hnc, hcm, hl⟩ := hv
  obtain ⟨n, hn⟩ : ∃ n, n = l.length := ⟨_, rfl⟩
  rw [← hn] at hA hnc hb ⊢
  have hci : (c : Int) ≤ 9223372036854775807 := by unfold maxLen at hcm; omega
  by_cases h2 : n < 2
  · have hE := Lib.hid (dlook_short (l := l) (by omega))
    have d1 : decide ((n : Int) < 2) = true := decide_eq_true (by omega)
    clear hn hl hcm hA hnc
    go_enter Tryz.func93, Tryz.ntmps93
    go_wp2
    refine bodyPost_ret (results_tmp5 rfl _ _ _) rfl ?_
    rw [hE.out]
    exact ⟨_, rfl, isB_nil _, Below.refl _ _⟩
  · have hl2 : 2 ≤ l.length := by omega
    have d1 : decide ((n : Int) < 2) = false := decide_eq_false (by omega)
    obtain ⟨ad, rfl, _, hcell0⟩ := hl.cell (k := 0) (by rw [List.length_map]; omega)
    obtain ⟨_, hAd, _, hcell1⟩ := hl.cell (k := 1) (by rw [List.length_map]; omega)
    injection hAd with hAd
    subst hAd
    obtain ⟨x, hx⟩ : ∃ x : Nat, x = l[0].toNat := ⟨_, rfl⟩
    obtain ⟨y, hy⟩ : ∃ y : Nat, y = l[1].toNat := ⟨_, rfl⟩
    have hx8 : x < 256 := by rw [hx]; exact UInt8.toNat_lt _
    have hy8 : y < 256 := by rw [hy]; exact UInt8.toNat_lt _
    have hc0 : w.cell? ad = some (.int .u8 (x : Int)) := by
      have e : ad.add 0 = ad := by simp [Addr.add]
      rw [e] at hcell0
      rw [hcell0, List.getElem_map, hx]; rfl
    have hc1 : w.cell? ⟨ad.block, ad.off + 1, none⟩ = some (.int .u8 (y : Int)) := by
      have e : ad.add 1 = ⟨ad.block, ad.off + 1, none⟩ := by simp [Addr.add]
      rw [e] at hcell1
      rw [hcell1, List.getElem_map, hy]; rfl
    obtain ⟨X, hX⟩ : ∃ X, X = 256 * x + y := ⟨_, rfl⟩
    have hXb : X < 65536 := by omega
    have hE := Lib.hid (dlook_long (l := l) (X := X) hl2 (by rw [hX, hx, hy]))
    have hn0 : (0 : Int) < (n : Int) := by omega
    have hn1 : (1 : Int) < (n : Int) := by omega
    have HX := Lib.hid (show (256 * (x : Int) + (y : Int)) / 16384 = ((X / 16384 : Nat) : Int) ∧ (256 * (x : Int) + (y : Int)) / 512 % 32 = ((X / 512 % 32 : Nat) : Int) ∧ (256 * (x : Int) + (y : Int)) % 512 + 1 = ((X % 512 + 1 : Nat) : Int) from ⟨by omega, by omega, by omega⟩)
    have HN := Lib.hid hn
    obtain ⟨v6, hv6, A6, c6, e6, hA6, hc6, hm6, hl6⟩ := from_named (P := Tryz.prog) (w := w) elemB (k := 2) (by omega) hnc hcm hn.symm hl hA
    have hpl : (l.drop 2).length = n - 2 := by rw [List.length_drop]; omega
    have hpm : ((l.drop 2).map bv).length = n - 2 := by rw [List.length_map]; exact hpl
    have HPM := Lib.hid hpm
    rw [hpl] at e6 hA6
    obtain ⟨N, hN⟩ : ∃ N, N = n - 2 := ⟨_, rfl⟩
    rw [← hN] at e6 hA6 HPM
    have hNb : N ≤ 1000000 := by omega
    subst e6
    clear hN
    have hsl : ∀ W, (Instr.sliceAt 25 (.slice (some ad) n c) (some (.int .i64 2)) none none).run Tryz.prog W = .ok (.slice A6 N c6) W := hv6
    clear hn hx hy hX hcell0 hcell1 hl hv6 hpl hpm hc6 hm6
    go_enter Tryz.func93, Tryz.ntmps93
    go_wp2
    go_quiet (fail)
    have hown0 : ((w.drewN nq).alloc (.cells #[] 5)).ownsRow w.heap.size 5 1 (.slice (some ⟨w.heap.size, 0, none⟩) 0 0) 0 [] := own_made (w.drewN nq) 5
    have hb0 : Below w.heap.size w ((w.drewN nq).alloc (.cells #[] 5)) := (below_drewN (Below.refl _ _) nq).alloc (Nat.le_refl _) _
    have hz0 := hb0.size
    have hl0 := hl6.below hb0
    go_wp2_with (at_builtin; refine wpList_join elemB rfl _ _ rfl w.heap.size _ _ _ _ _ _ ((l.drop 2).map bv) w rfl rfl hA6 HPM.out hl0 (bv_one _) hown0 hb0 hz0 (by omega) (by omega) ?_)
    intro v7 w7 hown7 hb7 _ _
    have HI7 := Lib.hid (show IsB (l.drop 2) v7 w7 from isB_own (n := N) (by simpa using hown7))
    have HB7 := Lib.hid hb7
    clear hown7 hb7 hown0 hb0 hz0 hl0
    go_wp2
    refine bodyPost_ret (results_tmp5 rfl _ _ _) rfl ?_
    rw [hE.out]
    refine ⟨_, ?_, HI7.out, HB7.out⟩
    rw [← HX.out.1, ← HX.out.2.1, ← HX.out.2.2]
    rfl

/-- A row of values and an error that a call answers. -/
def RetV {α : Type} (f : α → Value) (w : World) (p : List α × Int) (e : Ending) (w' : World) : Prop := ∃ u, e = .returned (.tuple #[u, .int .i64 p.2]) ∧ IsV f p.1 u w' ∧ Below w.heap.size w w'
theorem RetV.nil {α : Type} {f : α → Value} {w w' : World} (n : Int) (hb : Below w.heap.size w w') : RetV f w ([], n) (.returned (.tuple #[.slice none 0 0, .int .i64 n])) w' := ⟨_, rfl, isV_nil _ _, hb⟩
theorem omap_take {α β : Type} {f : α → Option β} {l : List α} {k : Nat} {acc : List β} {y : β} (hk : k < l.length) (h : omap f (l.take k) = some acc) (hy : f l[k] = some y) : omap f (l.take (k + 1)) = some (acc ++ [y]) := by
  rw [List.take_succ_eq_append_getElem hk, omap_snoc, h, hy]
def OmapRel {α β : Type} (f : α → Option β) (enc : β → Value) (t : TypeId) (l : List α) (w : World) (v i : Value) (wr : World) : Prop :=
  ∃ (k : Nat) (acc : List β), k ≤ l.length ∧ i = .int .i64 (k : Int) ∧ omap f (l.take k) = some acc ∧ wr.ownsRow w.heap.size t 1 v acc.length (acc.map enc) ∧ Below w.heap.size w wr
set_option maxHeartbeats 2000000 in
set_option maxRecDepth 100000 in
theorem rplain8_any (l : List Int) (v : Value) (s : Bool) (w : World) (hv : IsV iv l v w) (hl : ∀ x ∈ l, inInt x) (hb : l.length ≤ 1000000) :
    Calls Tryz.prog 21 #[v, .bool s] w (RetV uv w (dplainE l s)) := by
  obtain ⟨A, c, rfl, hA, hnc, hcm, hlw⟩ := hv
  obtain ⟨n, hn⟩ : ∃ n, n = l.length := ⟨_, rfl⟩
  rw [← hn] at hA hnc hb ⊢
  have hst : OmapRel (eplain · s) uv 53 l w (.slice (some ⟨w.heap.size, 0, none⟩) 0 0) (.int .i64 0) (w.alloc (.cells #[] 53)) := ⟨0, [], by omega, rfl, rfl, own_made w _, (Below.refl _ _).alloc (Nat.le_refl _) _⟩
  have HN := Lib.hid hn
  have HL := Lib.hid hlw
  have HI := Lib.hid hl
  clear hn hlw hl hcm hA
  go_enter Tryz.func21, Tryz.ntmps21
  go_wp2
  go_loopw [6, 7] (OmapRel (eplain · s) uv 53 l w) (fun _ i _ => n - (intOf i).toNat)
  case atStart => exact hst
  case round =>
    obtain ⟨k, acc, hk, rfl, hacc, hown, hbw⟩ := hrel
    have hz := hbw.size
    have hal : acc.length = k := by rw [omap_len hacc, List.length_take]; omega
    have HACC := Lib.hid hacc
    have HAL := Lib.hid hal
    have hk' : k ≤ n := by have := HN.out; omega
    clear hst hacc
    rw [hal] at hown
    clear hal
    by_cases hlt : k < n
    · have hkl : k < l.length := by have := HN.out; omega
      have hlti : (k : Int) < (n : Int) := by omega
      obtain ⟨ad, rfl, _, hcell⟩ := (HL.out.below hbw).cell (k := k) (by rw [List.length_map]; exact hkl)
      obtain ⟨x, hx⟩ : ∃ x, x = l[k] := ⟨_, rfl⟩
      have hcx : wr.cell? (ad.add k) = some (.int .i64 x) := by rw [hcell, List.getElem_map, hx]; rfl
      have hxb : inInt x := by rw [hx]; exact HI.out _ (List.getElem_mem hkl)
      have HP := Lib.hid (rplain7_any x s wr hxb.1 hxb.2)
      obtain ⟨u, hu⟩ : ∃ u, u = (eplain x s).getD 0 := ⟨_, rfl⟩
      obtain ⟨ok, hok⟩ : ∃ ok, ok = (eplain x s).isSome := ⟨_, rfl⟩
      rw [← hu, ← hok] at HP
      have HX := Lib.hid hx
      have HU := Lib.hid hu
      have HOK := Lib.hid hok
      clear hx hu hok hcell hxb
      cases ok with
      | false =>
        have hE : Hid (dplainE l s = ([], 1)) := Lib.hid (by
          have h0 : eplain x s = none := by simpa using HOK.out.symm
          have h1 : dplain l s = none := omap_none (x := x) (by rw [HX.out]; exact List.getElem_mem hkl) h0
          unfold dplainE; rw [h1])
        go_wp2_with (go_at_call 40; refine HP.out.mono ?_; rintro e w' ⟨rfl, rfl⟩)
        go_ret2
        rw [hE.out]
        exact RetV.nil _ hbw
      | true =>
        have hnext : Hid (omap (eplain · s) (l.take (k + 1)) = some (acc ++ [u])) := Lib.hid (omap_take hkl HACC.out (by
          rw [← HX.out]
          have h0 := HOK.out
          have h1 := HU.out
          cases he : eplain x s with
          | none => rw [he] at h0; simp at h0
          | some z => rw [he] at h1; simp at h1; rw [h1]))
        go_wp2_with (first | (go_at_call 40; refine HP.out.mono ?_; rintro e w' ⟨rfl, rfl⟩) | (at_builtin; refine wpList_push elemU rfl _ _ rfl w.heap.size _ _ _ (uv u) wr w rfl rfl rfl rfl hown hbw hz (by omega) (by omega) ?_))
        intro v5 w5 hown5 hb5 _ _
        have hown6 : w5.ownsRow w.heap.size 53 1 v5 (acc ++ [u]).length ((acc ++ [u]).map uv) := by
          rw [List.length_append, List.length_singleton, List.map_append, List.map_singleton, HAL.out]
          exact hown5
        clear hown5 hown
        go_wp2
        go_roundw
        case rel => exact ⟨k + 1, _, by have := HN.out; omega, by go_num, hnext.out, hown6, hb5⟩
        case measure => simp [intOf]; omega
    · obtain rfl : k = n := by omega
      have hlti : ¬ (k : Int) < (k : Int) := by omega
      have hE : Hid (dplainE l s = (acc, 0)) := Lib.hid (by
        have h1 := HACC.out
        rw [List.take_of_length_le (by have := HN.out; omega)] at h1
        unfold dplainE dplain; rw [h1])
      go_wp2
      go_ret2
      rw [hE.out]
      exact ⟨_, rfl, isV_own hown, hbw⟩
set_option maxHeartbeats 2000000 in
set_option maxRecDepth 100000 in
theorem rmade8_any (l : List Nat) (v : Value) (s : Bool) (w : World) (hv : IsV uv l v w) (hl : ∀ x ∈ l, x < 2 ^ 64) (hb : l.length ≤ 1000000) :
    Calls Tryz.prog 95 #[v, .bool s] w (RetV iv w (dmadeE l s)) := by
  obtain ⟨A, c, rfl, hA, hnc, hcm, hlw⟩ := hv
  obtain ⟨n, hn⟩ : ∃ n, n = l.length := ⟨_, rfl⟩
  rw [← hn] at hA hnc hb ⊢
  have hst : OmapRel (emade · s) iv 3 l w (.slice (some ⟨w.heap.size, 0, none⟩) 0 0) (.int .i64 0) (w.alloc (.cells #[] 3)) := ⟨0, [], by omega, rfl, rfl, own_made w _, (Below.refl _ _).alloc (Nat.le_refl _) _⟩
  have HN := Lib.hid hn
  have HL := Lib.hid hlw
  have HI := Lib.hid hl
  clear hn hlw hl hcm hA
  go_enter Tryz.func95, Tryz.ntmps95
  go_wp2
  go_loopw [6, 7] (OmapRel (emade · s) iv 3 l w) (fun _ i _ => n - (intOf i).toNat)
  case atStart => exact hst
  case round =>
    obtain ⟨k, acc, hk, rfl, hacc, hown, hbw⟩ := hrel
    have hz := hbw.size
    have hal : acc.length = k := by rw [omap_len hacc, List.length_take]; omega
    have HACC := Lib.hid hacc
    have HAL := Lib.hid hal
    have hk' : k ≤ n := by have := HN.out; omega
    clear hst hacc
    rw [hal] at hown
    clear hal
    by_cases hlt : k < n
    · have hkl : k < l.length := by have := HN.out; omega
      have hlti : (k : Int) < (n : Int) := by omega
      obtain ⟨ad, rfl, _, hcell⟩ := (HL.out.below hbw).cell (k := k) (by rw [List.length_map]; exact hkl)
      obtain ⟨x, hx⟩ : ∃ x, x = l[k] := ⟨_, rfl⟩
      have hcx : wr.cell? (ad.add k) = some (.int .u64 (x : Int)) := by rw [hcell, List.getElem_map, hx]; rfl
      have hxb : x < 2 ^ 64 := by rw [hx]; exact HI.out _ (List.getElem_mem hkl)
      have HP := Lib.hid (rmade7_any (x : Int) s wr (by omega) (by omega))
      rw [Int.toNat_natCast] at HP
      obtain ⟨u, hu⟩ : ∃ u, u = (emade x s).getD 0 := ⟨_, rfl⟩
      obtain ⟨ok, hok⟩ : ∃ ok, ok = (emade x s).isSome := ⟨_, rfl⟩
      rw [← hu, ← hok] at HP
      have HX := Lib.hid hx
      have HU := Lib.hid hu
      have HOK := Lib.hid hok
      clear hx hu hok hcell hxb
      cases ok with
      | false =>
        have hE : Hid (dmadeE l s = ([], 2)) := Lib.hid (by
          have h0 : emade x s = none := by simpa using HOK.out.symm
          have h1 : dmade l s = none := omap_none (x := x) (by rw [HX.out]; exact List.getElem_mem hkl) h0
          unfold dmadeE; rw [h1])
        go_wp2_with (go_at_call 98; refine HP.out.mono ?_; rintro e w' ⟨rfl, rfl⟩)
        go_ret2
        rw [hE.out]
        exact RetV.nil _ hbw
      | true =>
        have hnext : Hid (omap (emade · s) (l.take (k + 1)) = some (acc ++ [u])) := Lib.hid (omap_take hkl HACC.out (by
          rw [← HX.out]
          have h0 := HOK.out
          have h1 := HU.out
          cases he : emade x s with
          | none => rw [he] at h0; simp at h0
          | some z => rw [he] at h1; simp at h1; rw [h1]))
        go_wp2_with (first | (go_at_call 98; refine HP.out.mono ?_; rintro e w' ⟨rfl, rfl⟩) | (at_builtin; refine wpList_push elemI rfl _ _ rfl w.heap.size _ _ _ (iv u) wr w rfl rfl rfl rfl hown hbw hz (by omega) (by omega) ?_))
        intro v5 w5 hown5 hb5 _ _
        have hown6 : w5.ownsRow w.heap.size 3 1 v5 (acc ++ [u]).length ((acc ++ [u]).map iv) := by
          rw [List.length_append, List.length_singleton, List.map_append, List.map_singleton, HAL.out]
          exact hown5
        clear hown5 hown
        go_wp2
        go_roundw
        case rel => exact ⟨k + 1, _, by have := HN.out; omega, by go_num, hnext.out, hown6, hb5⟩
        case measure => simp [intOf]; omega
    · obtain rfl : k = n := by omega
      have hlti : ¬ (k : Int) < (k : Int) := by omega
      have hE : Hid (dmadeE l s = (acc, 0)) := Lib.hid (by
        have h1 := HACC.out
        rw [List.take_of_length_le (by have := HN.out; omega)] at h1
        unfold dmadeE dmade; rw [h1])
      go_wp2
      go_ret2
      rw [hE.out]
      exact ⟨_, rfl, isV_own hown, hbw⟩

def SameRelI (l m : List Int) (w : World) (i : Value) (wr : World) : Prop := ∃ k : Nat, i = .int .i64 (k : Int) ∧ k ≤ l.length ∧ l.take k = m.take k ∧ Below w.heap.size w wr
set_option maxHeartbeats 1000000 in
theorem same8_any (A B : Option Addr) (n c n' c' : Nat) (l m : List Int) (w : World) (hn : l.length = n) (hn' : m.length = n') (hb : n ≤ 1000000) (hb' : n' ≤ 1000000) (hl : Lies w A (l.map iv)) (hm : Lies w B (m.map iv)) :
    Calls Tryz.prog 15 #[.slice A n c, .slice B n' c'] w fun e w' => e = .returned (.bool (l == m)) ∧ Below w.heap.size w w' := by
  have HN := Lib.hid hn
  have HN' := Lib.hid hn'
  clear hn hn'
  by_cases hnn : n = n'
  · subst hnn
    have d1 : ((n : Int) != (n : Int)) = false := by simp
    go_enter Tryz.func15, Tryz.ntmps15
    go_wp2
    go_loopw [5] (SameRelI l m w) (fun i _ => n - (intOf i).toNat)
    case atStart => exact ⟨0, rfl, by omega, by simp, Below.refl _ _⟩
    case round =>
      obtain ⟨k, rfl, hk, he, hbr⟩ := hrel
      have HE := Lib.hid he
      clear he
      have hk' : k ≤ n := by have := HN.out; omega
      by_cases hlt : k < n
      · have hkl : k < l.length := by have := HN.out; omega
        have hkm : k < m.length := by have := HN'.out; omega
        obtain ⟨ad, rfl, _, hcell⟩ := (hl.below hbr).cell (k := k) (by simpa using hkl)
        obtain ⟨ad', rfl, _, hcell'⟩ := (hm.below hbr).cell (k := k) (by simpa using hkm)
        obtain ⟨x, hx⟩ : ∃ x : Int, x = l[k] := ⟨_, rfl⟩
        obtain ⟨y, hy⟩ : ∃ y : Int, y = m[k] := ⟨_, rfl⟩
        have hcx : wr.cell? (ad.add k) = some (.int .i64 x) := by rw [hcell, List.getElem_map, hx]; rfl
        have hcy : wr.cell? (ad'.add k) = some (.int .i64 y) := by rw [hcell', List.getElem_map, hy]; rfl
        have HX := Lib.hid hx
        have HY := Lib.hid hy
        clear hx hy hcell hcell'
        have hlti : (k : Int) < (n : Int) := by omega
        by_cases hxy : x = y
        · subst hxy
          have d2 : (x != x) = false := by simp
          go_wp2
          go_quiet (fail)
          go_wp2
          go_roundw
          case rel =>
            refine ⟨k + 1, by go_num, by omega, ?_, below_drewN hbr _⟩
            rw [List.take_succ_eq_append_getElem hkl, List.take_succ_eq_append_getElem hkm, HE.out, ← HX.out, ← HY.out]
          case measure => simp [intOf]; omega
        · have d2 : (x != y) = true := by simpa using hxy
          have hne : (l == m) = false := by
            rw [beq_eq_false_iff_ne]
            intro h
            subst h
            exact hxy (by rw [HX.out, HY.out])
          go_wp2
          go_quiet (fail)
          go_wp2
          go_ret
          exact ⟨ret_bool hne.symm, below_drewN hbr _⟩
      · obtain rfl : k = n := by omega
        have heq : (l == m) = true := by
          rw [beq_iff_eq]
          have h1 := HE.out
          rw [List.take_of_length_le (by have := HN.out; omega), List.take_of_length_le (by have := HN'.out; omega)] at h1
          exact h1
        have HQ := Lib.hid heq
        clear heq
        go_wp2
        go_ret
        exact ⟨ret_bool HQ.out.symm, hbr⟩
  · have d1 : ((n : Int) != (n' : Int)) = true := by simpa using (fun h => hnn (by omega))
    have hne : (l == m) = false := by
      rw [beq_eq_false_iff_ne]
      intro h
      subst h
      exact hnn (by rw [← HN.out, ← HN'.out])
    have HQ := Lib.hid hne
    clear hne
    go_enter Tryz.func15, Tryz.ntmps15
    go_wp2
    go_ret
    exact ⟨ret_bool HQ.out.symm, Below.refl _ _⟩
theorem same8_is {l m : List Int} {u v : Value} {w : World} (hl : IsV iv l u w) (hm : IsV iv m v w) (h1 : l.length ≤ 1000000) (h2 : m.length ≤ 1000000) :
    Calls Tryz.prog 15 #[u, v] w fun e w' => e = .returned (.bool (l == m)) ∧ Below w.heap.size w w' := by
  obtain ⟨A, c, rfl, _, _, _, h3⟩ := hl
  obtain ⟨B, c', rfl, _, _, _, h4⟩ := hm
  exact same8_any A B _ c _ c' l m w rfl rfl h1 h2 h3 h4
theorem dhead_no {k c m : Int} (h : ¬ (0 ≤ k ∧ k ≤ 3 ∧ 0 ≤ c ∧ c ≤ 31 ∧ 1 ≤ m ∧ m ≤ 512)) : dhead k c m = [] := by unfold dhead; rw [if_neg h]
theorem dheadN_two {k c m X h y : Nat} (hX : X = 16384 * k + 512 * c + (m - 1)) (hh : h = X / 256) (hy : y = X % 256) (hb : X < 65536) : (dheadN k c m).map bv = [.int .u8 (h : Int), .int .u8 (y : Int)] := by
  have e : dheadN k c m = [UInt8.ofNat h, UInt8.ofNat y] := by
    unfold dheadN
    rw [← hX]
    symm
    refine eq_be rfl ?_
    have h1 : (UInt8.ofNat h).toNat = h := by rw [UInt8.toNat_ofNat']; omega
    have h2 : (UInt8.ofNat y).toNat = y := by rw [UInt8.toNat_ofNat']; omega
    simp only [bval, List.length_cons, List.length_nil, h1, h2]
    omega
  rw [e]
  have h1 : (UInt8.ofNat h).toNat = h := by rw [UInt8.toNat_ofNat']; omega
  have h2 : (UInt8.ofNat y).toNat = y := by rw [UInt8.toNat_ofNat']; omega
  simp only [List.map_cons, List.map_nil, bv, h1, h2]
/-- Bytes in a row of the call's own. -/
def RetH (w : World) (l : List UInt8) (e : Ending) (w' : World) : Prop := ∃ v, e = .returned v ∧ w'.ownsRow w.heap.size 5 1 v l.length (l.map bv) ∧ Below w.heap.size w w'
theorem own_new (w : World) (e : TypeId) (xs : List Value) (n : Nat) (hn : xs.length = n) (hb : n ≤ 1000000) : (w.alloc (.cells xs.toArray e)).ownsRow w.heap.size e 1 (.slice (some ⟨w.heap.size, 0, none⟩) n n) n xs :=
  ⟨by simpa using hn, .inr ⟨w.heap.size, n, xs.toArray, rfl, Nat.le_refl _, heap_alloc_new w _, Nat.le_refl _, by unfold maxLen; omega, by simp [hn], by subst hn; simp⟩⟩
set_option maxHeartbeats 2000000 in
set_option maxRecDepth 100000 in
theorem rhead8_any (k c m : Int) (w : World) : Calls Tryz.prog 45 #[.int .i64 k, .int .i64 c, .int .i64 m] w (RetH w (dhead k c m)) := by
  by_cases h0 : k < 0
  · have d0 : decide (k < 0) = true := decide_eq_true h0
    have hE := Lib.hid (dhead_no (k := k) (c := c) (m := m) (by omega))
    go_enter Tryz.func45, Tryz.ntmps45
    go_wp2
    go_ret
    rw [hE.out]
    exact ⟨_, rfl, World.ownsRow_nil _ _ _ _, Below.refl _ _⟩
  · have d0 : decide (k < 0) = false := decide_eq_false h0
    by_cases h1 : 3 < k
    · have d1 : decide ((3 : Int) < k) = true := decide_eq_true h1
      have hE := Lib.hid (dhead_no (k := k) (c := c) (m := m) (by omega))
      go_enter Tryz.func45, Tryz.ntmps45
      go_wp2
      go_ret
      rw [hE.out]
      exact ⟨_, rfl, World.ownsRow_nil _ _ _ _, Below.refl _ _⟩
    · have d1 : decide ((3 : Int) < k) = false := decide_eq_false h1
      by_cases h2 : c < 0
      · have d2 : decide (c < 0) = true := decide_eq_true h2
        have hE := Lib.hid (dhead_no (k := k) (c := c) (m := m) (by omega))
        go_enter Tryz.func45, Tryz.ntmps45
        go_wp2
        go_ret
        rw [hE.out]
        exact ⟨_, rfl, World.ownsRow_nil _ _ _ _, Below.refl _ _⟩
      · have d2 : decide (c < 0) = false := decide_eq_false h2
        by_cases h3 : 31 < c
        · have d3 : decide ((31 : Int) < c) = true := decide_eq_true h3
          have hE := Lib.hid (dhead_no (k := k) (c := c) (m := m) (by omega))
          go_enter Tryz.func45, Tryz.ntmps45
          go_wp2
          go_ret
          rw [hE.out]
          exact ⟨_, rfl, World.ownsRow_nil _ _ _ _, Below.refl _ _⟩
        · have d3 : decide ((31 : Int) < c) = false := decide_eq_false h3
          by_cases h4 : m < 1
          · have d4 : decide (m < 1) = true := decide_eq_true h4
            have hE := Lib.hid (dhead_no (k := k) (c := c) (m := m) (by omega))
            go_enter Tryz.func45, Tryz.ntmps45
            go_wp2
            go_ret
            rw [hE.out]
            exact ⟨_, rfl, World.ownsRow_nil _ _ _ _, Below.refl _ _⟩
          · have d4 : decide (m < 1) = false := decide_eq_false h4
            by_cases h5 : 512 < m
            · have d5 : decide ((512 : Int) < m) = true := decide_eq_true h5
              have hE := Lib.hid (dhead_no (k := k) (c := c) (m := m) (by omega))
              go_enter Tryz.func45, Tryz.ntmps45
              go_wp2
              go_ret
              rw [hE.out]
              exact ⟨_, rfl, World.ownsRow_nil _ _ _ _, Below.refl _ _⟩
            · have d5 : decide ((512 : Int) < m) = false := decide_eq_false h5
              obtain ⟨K, rfl⟩ := Int.eq_ofNat_of_zero_le (show 0 ≤ k by omega)
              obtain ⟨C, rfl⟩ := Int.eq_ofNat_of_zero_le (show 0 ≤ c by omega)
              obtain ⟨M, rfl⟩ := Int.eq_ofNat_of_zero_le (show 0 ≤ m by omega)
              obtain ⟨X, hX⟩ : ∃ X, X = 16384 * K + 512 * C + (M - 1) := ⟨_, rfl⟩
              obtain ⟨h, hh⟩ : ∃ h, h = X / 256 := ⟨_, rfl⟩
              obtain ⟨y, hy⟩ : ∃ y, y = X % 256 := ⟨_, rfl⟩
              have hXb : X < 65536 := by omega
              have hXi : 16384 * (K : Int) + 512 * (C : Int) + (M : Int) - 1 = (X : Int) := by omega
              have hhi : (X : Int) / 256 = (h : Int) := by omega
              have hyi : (X : Int) % 256 = (y : Int) := by omega
              have hhw : IntKind.u8.wrap (h : Int) = (h : Int) := by rw [IntKind.wrap_u8]; omega
              have hyw : IntKind.u8.wrap (y : Int) = (y : Int) := by rw [IntKind.wrap_u8]; omega
              have hE := Lib.hid (dhead_in (k := K) (c := C) (m := M) (by omega) (by omega) (by omega) (by omega))
              have hT := Lib.hid (dheadN_two hX hh hy hXb)
              clear hX hh hy
              go_enter Tryz.func45, Tryz.ntmps45
              go_wp2
              go_ret
              rw [hE.out]
              refine ⟨_, rfl, ?_, (Below.refl _ _).alloc (Nat.le_refl _) _⟩
              have h9 := own_new w 5 ((dheadN K C M).map bv) 2 (by rw [List.length_map]; exact dheadN_len _ _ _) (by omega)
              rw [hT.out] at h9
              rw [hT.out, dheadN_len]
              exact h9
end Go.Proofs.YtnbiopihcbnkpaaGreatDoor

/- Numbers of which a few are great (layer 10), as plain mathematics. -/



namespace Go.Proofs.YtnbiopihcbnkpaaGreatDoor

/-- The least one. -/
def pbase (l : List Int) : Int := l.foldl min (l.headD 0)
theorem foldl_min_le : ∀ (l : List Int) (n : Int), l.foldl min n ≤ n ∧ ∀ x ∈ l, l.foldl min n ≤ x
  | [], n => ⟨Int.le_refl _, fun _ h => by cases h⟩
  | y :: l, n => by
    have h := foldl_min_le l (min n y)
    rw [List.foldl_cons]
    refine ⟨by omega, fun x hx => ?_⟩
    rcases List.mem_cons.1 hx with rfl | hx
    · omega
    · exact h.2 x hx
theorem foldl_min_mem : ∀ (l : List Int) (n : Int), l.foldl min n = n ∨ l.foldl min n ∈ l
  | [], n => .inl rfl
  | y :: l, n => by
    rw [List.foldl_cons]
    rcases foldl_min_mem l (min n y) with h | h
    · by_cases hn : n ≤ y
      · left; omega
      · right; rw [h, show min n y = y by omega]; exact List.mem_cons_self
    · exact .inr (List.mem_cons_of_mem _ h)
theorem pbase_le {l : List Int} {x : Int} (h : x ∈ l) : pbase l ≤ x := (foldl_min_le l _).2 x h
theorem pbase_mem {l : List Int} (h : 1 ≤ l.length) : pbase l ∈ l := by
  unfold pbase
  rcases foldl_min_mem l (l.headD 0) with h2 | h2
  · rw [h2]
    cases l with
    | nil => simp at h
    | cons a t => exact List.mem_cons_self
  · exact h2
def pone (base x : Int) : Option Nat := if (gdiff base x).2.2 = true then some (gdiff base x).1 else none
def pups (l : List Int) : Option (List Nat) := omap (pone (pbase l)) l
theorem pone_step {base x : Int} {u : Nat} (hx : inInt x) (hle : base ≤ x) (h : pone base x = some u) : gstep base u false = (x, true) ∧ (u : Int) < 9223372036854775808 := by
  unfold pone at h
  split at h
  · rename_i hk
    injection h with h
    subst h
    have h1 := gstep_gdiff (a := base) hx hk
    have h2 : (gdiff base x).2.1 = false := by
      rcases gdiff_cases base x with ⟨k, _⟩ | ⟨k1, _, _⟩ | ⟨_, _, k⟩
      · rw [k]
      · omega
      · rw [k]
    rw [h2] at h1
    exact ⟨h1, gdiff_lt base x⟩
  · cases h
theorem pups_len {l : List Int} {us : List Nat} (h : pups l = some us) : us.length = l.length := omap_len h
theorem pups_lt {l : List Int} {us : List Nat} (hl : ∀ x ∈ l, inInt x) (h : pups l = some us) : ∀ u ∈ us, (u : Int) < 9223372036854775808 := by
  intro u hu
  obtain ⟨x, hx, hu⟩ := omap_mem h hu
  exact (pone_step (hl x hx) (pbase_le hx) hu).2
/-- Pairs of a gap and a patch, of the first k numbers; and where the last one stands that is patched. -/
def pst (w : Nat) (us : List Nat) : Nat → List (Nat × Nat) × Nat
  | 0 => ([], 0)
  | k + 1 =>
    if us.getD k 0 / 2 ^ w = 0 then pst w us k
    else ((pst w us k).1 ++ (List.replicate ((k - (pst w us k).2 - 1) / 255) (255, 0) ++ [(k - (pst w us k).2 - 255 * ((k - (pst w us k).2 - 1) / 255), us.getD k 0 / 2 ^ w)]), k)
theorem pst_skip {w : Nat} {us : List Nat} {k : Nat} (h : us.getD k 0 / 2 ^ w = 0) : pst w us (k + 1) = pst w us k := by rw [pst, if_pos h]
theorem pst_more {w : Nat} {us : List Nat} {k : Nat} (h : us.getD k 0 / 2 ^ w ≠ 0) : pst w us (k + 1) = ((pst w us k).1 ++ (List.replicate ((k - (pst w us k).2 - 1) / 255) (255, 0) ++ [(k - (pst w us k).2 - 255 * ((k - (pst w us k).2 - 1) / 255), us.getD k 0 / 2 ^ w)]), k) := by rw [pst, if_neg h]
theorem pst_last (w : Nat) (us : List Nat) : ∀ k, (pst w us k).2 ≤ k
  | 0 => Nat.le_refl _
  | k + 1 => by
    have := pst_last w us k
    by_cases h : us.getD k 0 / 2 ^ w = 0
    · rw [pst_skip h]; omega
    · rw [pst_more h]; exact Nat.le_succ k
theorem pst_gap (w : Nat) (us : List Nat) : ∀ k, ∀ q ∈ (pst w us k).1, q.1 ≤ 255 ∧ (q.2 = 0 ∨ ∃ i, i < k ∧ q.2 = us.getD i 0 / 2 ^ w)
  | 0 => fun q hq => by cases hq
  | k + 1 => by
    intro q hq
    have ih := pst_gap w us k
    by_cases h : us.getD k 0 / 2 ^ w = 0
    · rw [pst_skip h] at hq
      obtain ⟨h1, h2⟩ := ih q hq
      exact ⟨h1, h2.imp id fun ⟨i, hi, h3⟩ => ⟨i, by omega, h3⟩⟩
    · rw [pst_more h] at hq
      simp only [List.mem_append, List.mem_replicate, List.mem_singleton] at hq
      rcases hq with hq | ⟨_, hq⟩ | hq
      · obtain ⟨h1, h2⟩ := ih q hq
        exact ⟨h1, h2.imp id fun ⟨i, hi, h3⟩ => ⟨i, by omega, h3⟩⟩
      · subst hq; exact ⟨Nat.le_refl _, .inl rfl⟩
      · subst hq; exact ⟨by dsimp only; omega, .inr ⟨k, by omega, rfl⟩⟩
def ppairs (w : Nat) (us : List Nat) : List (Nat × Nat) := (pst w us us.length).1
/-- The gap's width, and the patch's. -/
def pgw (ps : List (Nat × Nat)) : Nat := max 1 (wmost (ps.map (·.1)))
def ppw (ps : List (Nat × Nat)) : Nat := (wclosest (max 1 (wmost (ps.map (·.2))) : Nat)).toNat
def pcode (w : Nat) : Nat := (wcode (w : Int)).toNat
theorem wclose_all : ∀ n : Fin 65, 1 ≤ wclosest (n.val : Int) ∧ wclosest (n.val : Int) ≤ 64 ∧ (n.val : Int) ≤ wclosest (n.val : Int) ∧ 0 ≤ wcode (wclosest (n.val : Int)) ∧ wcode (wclosest (n.val : Int)) ≤ 31 ∧ wof (wcode (wclosest (n.val : Int))) = wclosest (n.val : Int) := by decide +kernel
theorem pclose {n : Nat} (h : n ≤ 64) : 1 ≤ (wclosest (n : Int)).toNat ∧ (wclosest (n : Int)).toNat ≤ 64 ∧ n ≤ (wclosest (n : Int)).toNat ∧ pcode (wclosest (n : Int)).toNat ≤ 31 ∧ wof (pcode (wclosest (n : Int)).toNat : Int) = ((wclosest (n : Int)).toNat : Int) ∧ wclosest (n : Int) = ((wclosest (n : Int)).toNat : Int) ∧ wcode ((wclosest (n : Int)).toNat : Int) = (pcode (wclosest (n : Int)).toNat : Int) := by
  have h1 := wclose_all ⟨n, by omega⟩
  dsimp only at h1
  have e : wclosest (n : Int) = ((wclosest (n : Int)).toNat : Int) := by omega
  have e2 : wcode ((wclosest (n : Int)).toNat : Int) = (pcode (wclosest (n : Int)).toNat : Int) := by unfold pcode; rw [← e]; omega
  refine ⟨by omega, by omega, by omega, ?_, ?_, e, e2⟩
  · rw [← e] at e2; omega
  · rw [← e2, ← e]; exact h1.2.2.2.2.2
theorem ppw_ok {w : Nat} {us : List Nat} (hu : ∀ u ∈ us, u < 2 ^ 64) : wmost ((ppairs w us).map (·.2)) ≤ 64 ∧ wmost ((ppairs w us).map (·.1)) ≤ 8 ∧ (∀ q ∈ ppairs w us, q.1 ≤ 255 ∧ q.2 < 2 ^ 64) := by
  have hq : ∀ q ∈ ppairs w us, q.1 ≤ 255 ∧ q.2 < 2 ^ 64 := by
    intro q hq
    obtain ⟨h1, h2⟩ := pst_gap w us us.length q hq
    refine ⟨h1, ?_⟩
    rcases h2 with h2 | ⟨i, hi, h2⟩
    · rw [h2]; exact Nat.two_pow_pos _
    · rw [h2, List.getD_eq_getElem?_getD, List.getElem?_eq_getElem hi]
      exact Nat.lt_of_le_of_lt (Nat.div_le_self _ _) (hu _ (List.getElem_mem hi))
  refine ⟨wmost_64 fun x hx => ?_, ?_, hq⟩
  · obtain ⟨q, hm, rfl⟩ := List.mem_map.1 hx
    exact (hq q hm).2
  · have h64 : ∀ x ∈ (ppairs w us).map (·.1), x < 2 ^ 64 := fun x hx => by
      obtain ⟨q, hm, rfl⟩ := List.mem_map.1 hx
      exact Nat.lt_of_le_of_lt (hq q hm).1 (by decide)
    rw [← wtop_bits h64]
    refine wbits_le (by omega) ?_
    have : ∀ (l : List Nat) (n : Nat), n ≤ 255 → (∀ x ∈ l, x ≤ 255) → l.foldl (fun n x => max n x) n ≤ 255 := by
      intro l
      induction l with
      | nil => intro n hn _; exact hn
      | cons y l ih => intro n hn h; rw [List.foldl_cons]; exact ih _ (by have := h y List.mem_cons_self; omega) fun x hx => h x (List.mem_cons_of_mem _ hx)
    have h2 := this ((ppairs w us).map (·.1)) 0 (by omega) fun x hx => by
      obtain ⟨q, hm, rfl⟩ := List.mem_map.1 hx
      exact (hq q hm).1
    unfold wtop
    show _ < 256
    omega
/-- A base as bytes. -/
def psize (base : Int) : Nat := (gdiff 0 base).1
def pn (base : Int) : Nat := wbits (psize base) / 8 + 1
def pbased (base : Int) : List UInt8 := be (pn base) (psize base + if base < 0 then 2 ^ (8 * pn base - 1) else 0)
def plow (us : List Nat) (w : Nat) : List Nat := us.map (· % 2 ^ w)
def pboth (ps : List (Nat × Nat)) (p : Nat) : List Nat := ps.map fun q => q.1 * 2 ^ p + q.2
def pheadb (base : Int) (ps : List (Nat × Nat)) : List UInt8 := [UInt8.ofNat (32 * (pn base - 1) + pcode (ppw ps)), UInt8.ofNat (32 * (pgw ps - 1) + ps.length)]
def play (base : Int) (us : List Nat) (w : Nat) : List UInt8 :=
  dheadN 2 (pcode w) us.length ++ pheadb base (ppairs w us) ++ pbased base ++ bpack (plow us w) w ++ bpack (pboth (ppairs w us) (ppw (ppairs w us))) (wclosest ((pgw (ppairs w us) + ppw (ppairs w us) : Nat) : Int)).toNat
/-- What Put answers. -/
def pputE (l : List Int) (W : Int) (s : Bool) : List UInt8 × Int :=
  if dplain l s = none ∨ l.length < 1 ∨ 512 < l.length ∨ wcode W < 0 ∨ 64 ≤ W then ([], 1)
  else match pups l with
    | none => ([], 1)
    | some us =>
      if pbase l = -9223372036854775808 ∨ 31 < (ppairs W.toNat us).length ∨ 64 < pgw (ppairs W.toNat us) + ppw (ppairs W.toNat us) ∨ 64 < W.toNat + ppw (ppairs W.toNat us) then ([], 1)
      else (play (pbase l) us W.toNat, 0)
/-- One pair is laid upon the numbers. -/
def pstep (w g p m : Nat) (st : Nat × List Nat) (v : Nat) : Option (Nat × List Nat) :=
  if v / 2 ^ p < 2 ^ g ∧ st.1 + v / 2 ^ p < m ∧ (wbits (v % 2 ^ p) + w ≤ 63 ∨ v % 2 ^ p = 0) then
    some (st.1 + v / 2 ^ p, st.2.set (st.1 + v / 2 ^ p) (st.2.getD (st.1 + v / 2 ^ p) 0 ^^^ (v % 2 ^ p * 2 ^ w)))
  else none
def pall (w g p m : Nat) : Nat × List Nat → List Nat → Option (Nat × List Nat)
  | st, [] => some st
  | st, v :: vs => match pstep w g p m st v with | none => none | some st' => pall w g p m st' vs
theorem pall_append (w g p m : Nat) (st : Nat × List Nat) (a b : List Nat) : pall w g p m st (a ++ b) = match pall w g p m st a with | none => none | some st' => pall w g p m st' b := by
  induction a generalizing st with
  | nil => rfl
  | cons v vs ih =>
    rw [List.cons_append, pall, pall]
    cases pstep w g p m st v with
    | none => rfl
    | some st' => exact ih st'
theorem pall_snoc (w g p m : Nat) (st : Nat × List Nat) (a : List Nat) (v : Nat) : pall w g p m st (a ++ [v]) = match pall w g p m st a with | none => none | some st' => pstep w g p m st' v := by
  rw [pall_append]
  cases pall w g p m st a with
  | none => rfl
  | some st' =>
    dsimp only
    rw [pall]
    cases pstep w g p m st' v with
    | none => rfl
    | some _ => rfl
/-- What Take answers. -/
def pend (s : Bool) (base : Int) (w g p m : Nat) (low both : List Nat) (q : List UInt8) : List Int × List UInt8 × Int :=
  match pall w g p m (0, low) both with
  | none => gbad
  | some st => match omap (gnext s false base) st.2 with | none => gbad | some xs => (xs, q, 0)
def pbits (s : Bool) (base : Int) (c m : Int) (g p some_ : Nat) (r : List UInt8) : List Int × List UInt8 × Int :=
  match unpacksAny r m (wof c) with
  | (low, r3, e) => if e ≠ 0 then gbad else match unpacksAny r3 some_ (wclosest ((g + p : Nat) : Int)) with
    | (both, r4, e) => if e ≠ 0 then gbad else pend s base (wof c).toNat g p m.toNat low both r4
/-- The base that bytes are. -/
def pmade (x : List UInt8) : Int := if 2 ^ (8 * x.length - 1) ≤ bval x then -((bval x % 2 ^ (8 * x.length - 1) : Nat) : Int) else ((bval x % 2 ^ (8 * x.length - 1) : Nat) : Int)
def pbody (s : Bool) (c m : Int) (r : List UInt8) : List Int × List UInt8 × Int :=
  if r.length < 2 then gbad
  else if 64 < (r.getD 1 0).toNat / 32 + 1 + (wof ((r.getD 0 0).toNat % 32 : Nat)).toNat ∨ r.length - 2 < (r.getD 0 0).toNat / 32 + 1 then gbad
  else pbits s (pmade ((r.drop 2).take ((r.getD 0 0).toNat / 32 + 1))) c m ((r.getD 1 0).toNat / 32 + 1) (wof ((r.getD 0 0).toNat % 32 : Nat)).toNat ((r.getD 1 0).toNat % 32) ((r.drop 2).drop ((r.getD 0 0).toNat / 32 + 1))
def ptakeE (l : List UInt8) (s : Bool) : List Int × List UInt8 × Int :=
  if (dlook l).2.2.2.2 ≠ 0 ∨ (dlook l).1 ≠ 2 then gbad else pbody s (dlook l).2.1 (dlook l).2.2.1 (dlook l).2.2.2.1

/-- The bits below a place, and those above: together. -/
theorem xor_join (w a b : Nat) (ha : a < 2 ^ w) : a ^^^ (b * 2 ^ w) = a + b * 2 ^ w := by
  refine Nat.eq_of_testBit_eq fun i => ?_
  rw [Nat.testBit_xor, Nat.mul_comm b, Nat.add_comm a, Nat.testBit_two_pow_mul_add b ha]
  by_cases h : i < w
  · rw [if_pos h, Nat.testBit_two_pow_mul, decide_eq_false (by omega : ¬ w ≤ i)]
    simp
  · rw [if_neg h, Nat.testBit_two_pow_mul, decide_eq_true (by omega : w ≤ i)]
    have h2 : a.testBit i = false := Nat.testBit_lt_two_pow (Nat.lt_of_lt_of_le ha (Nat.pow_le_pow_right (by omega) (by omega)))
    rw [h2]
    simp
theorem patch_back (u w : Nat) : (u % 2 ^ w) ^^^ (u / 2 ^ w * 2 ^ w) = u := by
  rw [xor_join w _ _ (Nat.mod_lt _ (Nat.two_pow_pos w)), Nat.mul_comm]
  have := Nat.div_add_mod u (2 ^ w)
  omega
theorem pstep_of {w g p m : Nat} {st : Nat × List Nat} {gap patch : Nat} (hp : patch < 2 ^ p) (hg : gap < 2 ^ g) (hm : st.1 + gap < m) (hb : wbits patch + w ≤ 63 ∨ patch = 0) :
    pstep w g p m st (gap * 2 ^ p + patch) = some (st.1 + gap, st.2.set (st.1 + gap) (st.2.getD (st.1 + gap) 0 ^^^ (patch * 2 ^ w))) := by
  have e1 : (gap * 2 ^ p + patch) / 2 ^ p = gap := by rw [Nat.mul_comm, Nat.mul_add_div (Nat.two_pow_pos p), Nat.div_eq_of_lt hp, Nat.add_zero]
  have e2 : (gap * 2 ^ p + patch) % 2 ^ p = patch := by rw [Nat.mul_comm, Nat.mul_add_mod, Nat.mod_eq_of_lt hp]
  unfold pstep
  rw [e1, e2, if_pos ⟨hg, hm, hb⟩]
theorem set_same {low : List Nat} {k : Nat} : low.set k (low.getD k 0) = low := by
  by_cases h : k < low.length
  · rw [List.getD_eq_getElem?_getD, List.getElem?_eq_getElem h, Option.getD_some]; exact List.set_getElem_self h
  · exact List.set_eq_of_length_le (by omega)
/-- Pairs of the gap 255 and the patch 0 go on and change nothing. -/
theorem pall_fill {w g p m : Nat} (hg : 255 < 2 ^ g) : ∀ (j at_ : Nat) (low : List Nat), at_ + 255 * j < m → pall w g p m (at_, low) (pboth (List.replicate j (255, 0)) p) = some (at_ + 255 * j, low)
  | 0, at_, low, _ => by simp [pboth, pall]
  | j + 1, at_, low, h => by
    have hm : (at_, low).1 + 255 < m := Nat.lt_of_le_of_lt (Nat.add_le_add_left (by omega : 255 ≤ 255 * (j + 1)) at_) h
    have h1 := pstep_of (w := w) (p := p) (patch := 0) (Nat.two_pow_pos p) hg hm (.inr rfl)
    have h2 := pall_fill (w := w) (p := p) hg j (at_ + 255) low (by omega : at_ + 255 + 255 * j < m)
    rw [Nat.zero_mul, Nat.xor_zero, set_same] at h1
    dsimp only at h1
    unfold pboth at h2 ⊢
    rw [List.replicate_succ, List.map_cons, pall, h1]
    dsimp only
    rw [h2]
    congr 2
    omega
/-- What is patched of the first k numbers makes these again. -/
theorem pall_st {w g p : Nat} {us : List Nat} (hu : ∀ u ∈ us, (u : Int) < 9223372036854775808) (hw : w ≤ 63) : ∀ k, k ≤ us.length → (∀ q ∈ (pst w us k).1, q.1 < 2 ^ g ∧ q.2 < 2 ^ p) →
    pall w g p us.length (0, plow us w) (pboth (pst w us k).1 p) = some ((pst w us k).2, us.take k ++ (plow us w).drop k)
  | 0, _, _ => by simp [pst, pboth, pall]
  | k + 1, hk, h => by
    have hll : (plow us w).length = us.length := by simp [plow]
    have hkl : k < (plow us w).length := by omega
    have hd : (plow us w).drop k = (us[k] % 2 ^ w) :: (plow us w).drop (k + 1) := by rw [List.drop_eq_getElem_cons hkl]; simp [plow]
    have hgd : us.getD k 0 = us[k] := by rw [List.getD_eq_getElem?_getD, List.getElem?_eq_getElem (by omega)]; rfl
    by_cases h0 : us.getD k 0 / 2 ^ w = 0
    · rw [pst_skip h0] at h ⊢
      rw [pall_st hu hw k (by omega) h, hd, List.take_succ_eq_append_getElem (by omega), List.append_assoc]
      rw [hgd] at h0
      have : us[k] % 2 ^ w = us[k] := by have := Nat.div_add_mod us[k] (2 ^ w); rw [h0] at this; omega
      rw [this]
      rfl
    · rw [pst_more h0] at h ⊢
      have hlast := pst_last w us k
      obtain ⟨last, hl⟩ : ∃ last, last = (pst w us k).2 := ⟨_, rfl⟩
      obtain ⟨j, hj⟩ : ∃ j, j = (k - last - 1) / 255 := ⟨_, rfl⟩
      rw [← hl, ← hj] at h ⊢
      rw [← hl] at hlast
      have hih := pall_st hu hw k (by omega) fun q hq => h q (List.mem_append_left _ hq)
      have hone := h (k - last - 255 * j, us.getD k 0 / 2 ^ w) (List.mem_append_right _ (List.mem_append_right _ (List.mem_singleton.2 rfl)))
      rw [pboth, List.map_append, List.map_append, pall_append, ← pboth, hih]
      dsimp only
      rw [← hl, pall_append, ← pboth]
      have hfill : pall w g p us.length (last, us.take k ++ (plow us w).drop k) (pboth (List.replicate j (255, 0)) p) = some (last + 255 * j, us.take k ++ (plow us w).drop k) := by
        by_cases hj0 : j = 0
        · subst hj0; rfl
        · have h255 : 255 < 2 ^ g := (h (255, 0) (List.mem_append_right _ (List.mem_append_left _ (List.mem_replicate.2 ⟨hj0, rfl⟩)))).1
          exact pall_fill h255 j last _ (by omega)
      rw [hfill]
      dsimp only
      rw [List.map_cons, List.map_nil, pall]
      have hb : wbits (us.getD k 0 / 2 ^ w) + w ≤ 63 := by
        have h1 : us.getD k 0 / 2 ^ w < 2 ^ (63 - w) := by
          rw [Nat.div_lt_iff_lt_mul (Nat.two_pow_pos w), ← Nat.pow_add, show 63 - w + w = 63 by omega, hgd]
          have := hu us[k] (List.getElem_mem _)
          show us[k] < 9223372036854775808
          omega
        have := wbits_le (by omega) h1
        omega
      rw [pstep_of hone.2 hone.1 (by dsimp only; omega) (.inl hb)]
      dsimp only
      rw [show last + 255 * j + (k - last - 255 * j) = k by omega, pall]
      congr 2
      have htl : (us.take k).length = k := by rw [List.length_take]; omega
      rw [hd, List.getD_eq_getElem?_getD, List.getElem?_append_right (by omega), htl, Nat.sub_self, List.getElem?_cons_zero, Option.getD_some, hgd, patch_back, List.set_append_right _ _ (by omega), htl, Nat.sub_self, List.set_cons_zero, List.take_succ_eq_append_getElem (by omega), List.append_assoc]
      rfl
theorem wcode_back {x : Int} (h : 0 ≤ wcode x) : wof (wcode x) = x ∧ wcode x ≤ 31 := by
  refine ⟨?_, (wcode_bd x).2⟩
  unfold wcode at h ⊢
  cases hf : (List.range 32).find? fun i => wat i == x with
  | none => rw [hf] at h; dsimp only at h; omega
  | some i =>
    dsimp only
    have h1 := List.find?_some hf
    have h2 := List.mem_range.1 (List.mem_of_find?_eq_some hf)
    rw [wof_in h2]
    simpa using h1
theorem pcode_back {w : Nat} (h : 0 ≤ wcode (w : Int)) : wof (pcode w : Int) = (w : Int) ∧ pcode w ≤ 31 ∧ wcode (w : Int) = (pcode w : Int) := by
  have h1 := wcode_back h
  have e : wcode (w : Int) = (pcode w : Int) := by unfold pcode; omega
  rw [e] at h1
  exact ⟨h1.1, by omega, e⟩
theorem psize_base {base : Int} (h : inInt base) (h2 : base ≠ -9223372036854775808) : (psize base : Int) = (if base < 0 then -base else base) ∧ (psize base : Int) < 9223372036854775808 := by
  unfold inInt at h
  unfold psize
  rcases gdiff_cases 0 base with ⟨_, k⟩ | ⟨k1, k2, k⟩ | ⟨k1, k2, k⟩
  · omega
  · rw [k, if_pos k1]; dsimp only; omega
  · rw [k, if_neg (by omega)]; dsimp only; omega
theorem pn_bd {base : Int} (h : (psize base : Int) < 9223372036854775808) : 1 ≤ pn base ∧ pn base ≤ 8 ∧ psize base < 2 ^ (8 * pn base - 1) := by
  have h1 : psize base < 2 ^ 63 := by show psize base < 9223372036854775808; omega
  have h2 := wbits_le (by omega) h1
  have h3 := wbits_lt (x := psize base) (Nat.lt_trans h1 (by decide))
  unfold pn
  refine ⟨by omega, by omega, Nat.lt_of_lt_of_le h3 (Nat.pow_le_pow_right (by omega) (by omega))⟩
theorem pbased_len (base : Int) : (pbased base).length = pn base := be_len _ _
theorem pbased_bval {base : Int} (h : (psize base : Int) < 9223372036854775808) : bval (pbased base) = psize base + if base < 0 then 2 ^ (8 * pn base - 1) else 0 := by
  obtain ⟨h1, _, h3⟩ := pn_bd h
  unfold pbased
  rw [bval_be, Nat.mod_eq_of_lt]
  rw [p256, show 8 * pn base = (8 * pn base - 1) + 1 by omega, Nat.pow_succ, Nat.add_sub_cancel]
  split <;> omega
theorem pmade_back {base : Int} (h : inInt base) (h2 : base ≠ -9223372036854775808) : pmade (pbased base) = base := by
  obtain ⟨hs, hlt⟩ := psize_base h h2
  obtain ⟨_, _, h3⟩ := pn_bd hlt
  unfold pmade
  rw [pbased_len, pbased_bval hlt]
  generalize 2 ^ (8 * pn base - 1) = P at *
  by_cases hb : base < 0
  · rw [if_pos hb] at hs ⊢
    rw [if_pos (by omega), Nat.add_mod_right, Nat.mod_eq_of_lt h3]
    omega
  · rw [if_neg hb] at hs ⊢
    rw [if_neg (by omega), Nat.add_zero, Nat.mod_eq_of_lt h3]
    omega
theorem wtop_bound {l : List Nat} (h : ∀ x ∈ l, x < 2 ^ 64) {x : Nat} (hx : x ∈ l) : x < 2 ^ wmost l := by
  have h1 := (wbits_iff (wtop_lt h) (wmost_64 h)).1 (by rw [wtop_bits h]; exact Nat.le_refl _)
  exact Nat.lt_of_le_of_lt (wtop_mem hx) h1
/-- What is known of the pairs of numbers. -/
theorem ppairs_ok {w : Nat} {us : List Nat} (hu : ∀ u ∈ us, u < 2 ^ 64) :
    1 ≤ pgw (ppairs w us) ∧ pgw (ppairs w us) ≤ 8 ∧ 1 ≤ ppw (ppairs w us) ∧ ppw (ppairs w us) ≤ 64 ∧ wclosest ((max 1 (wmost ((ppairs w us).map (·.2))) : Nat) : Int) = (ppw (ppairs w us) : Int) ∧ wcode (ppw (ppairs w us) : Int) = (pcode (ppw (ppairs w us)) : Int) ∧ pcode (ppw (ppairs w us)) ≤ 31 ∧ wof (pcode (ppw (ppairs w us)) : Int) = (ppw (ppairs w us) : Int) ∧
    ∀ q ∈ ppairs w us, q.1 < 2 ^ pgw (ppairs w us) ∧ q.2 < 2 ^ ppw (ppairs w us) := by
  obtain ⟨h1, h2, h3⟩ := ppw_ok (w := w) hu
  obtain ⟨c1, c2, c3, c4, c5, c6, c7⟩ := pclose (n := max 1 (wmost ((ppairs w us).map (·.2)))) (by omega)
  have hg : pgw (ppairs w us) = max 1 (wmost ((ppairs w us).map (·.1))) := rfl
  refine ⟨by omega, by omega, c1, c2, c6, c7, c4, c5, fun q hq => ⟨?_, ?_⟩⟩
  · have := wtop_bound (l := (ppairs w us).map (·.1)) (fun x hx => by
      obtain ⟨q, hm, rfl⟩ := List.mem_map.1 hx
      exact Nat.lt_of_le_of_lt (h3 q hm).1 (by decide)) (List.mem_map_of_mem hq)
    exact Nat.lt_of_lt_of_le this (Nat.pow_le_pow_right (by omega) (by omega))
  · have := wtop_bound (l := (ppairs w us).map (·.2)) (fun x hx => by
      obtain ⟨q, hm, rfl⟩ := List.mem_map.1 hx
      exact (h3 q hm).2) (List.mem_map_of_mem hq)
    refine Nat.lt_of_lt_of_le this (Nat.pow_le_pow_right (by omega) ?_)
    show _ ≤ (wclosest ((max 1 (wmost ((ppairs w us).map (·.2))) : Nat) : Int)).toNat
    omega
theorem pboth_lt {ps : List (Nat × Nat)} {g p : Nat} (h : ∀ q ∈ ps, q.1 < 2 ^ g ∧ q.2 < 2 ^ p) : ∀ x ∈ pboth ps p, x < 2 ^ (g + p) := by
  intro x hx
  obtain ⟨q, hq, rfl⟩ := List.mem_map.1 hx
  obtain ⟨h1, h2⟩ := h q hq
  have : (q.1 + 1) * 2 ^ p ≤ 2 ^ g * 2 ^ p := Nat.mul_le_mul_right _ h1
  rw [Nat.pow_add]
  rw [Nat.add_mul] at this
  omega
theorem byte_low {n : Nat} (h : n < 256) : (UInt8.ofNat n).toNat = n := by simp only [UInt8.toNat_ofNat', Nat.reducePow]; exact Nat.mod_eq_of_lt h
/-- P10.3. -/
theorem ptake_back {l : List Int} {s : Bool} {us : List Nat} {w : Nat} (hl : ∀ x ∈ l, inInt x ∧ (s = true ∨ 0 ≤ x)) (h1 : 1 ≤ l.length) (h5 : l.length ≤ 512) (hc : 0 ≤ wcode (w : Int)) (hw : w < 64) (hu : pups l = some us)
    (hb : pbase l ≠ -9223372036854775808) (h31 : (ppairs w us).length ≤ 31) (hgp : pgw (ppairs w us) + ppw (ppairs w us) ≤ 64) (b : List UInt8) : ptakeE (play (pbase l) us w ++ b) s = (l, b, 0) := by
  have hbi : inInt (pbase l) := (hl _ (pbase_mem h1)).1
  obtain ⟨hs, hlt⟩ := psize_base hbi hb
  obtain ⟨n1, n8, _⟩ := pn_bd hlt
  have hu63 := pups_lt (fun x hx => (hl x hx).1) hu
  have hu64 : ∀ u ∈ us, u < 2 ^ 64 := fun u h => by have := hu63 u h; show u < 18446744073709551616; omega
  obtain ⟨g1, g8, p1, p64, _, _, pc, pw, hq⟩ := ppairs_ok (w := w) hu64
  obtain ⟨cw, c31, _⟩ := pcode_back hc
  have hul := pups_len hu
  obtain ⟨W2, hW2⟩ : ∃ W2, W2 = (wclosest ((pgw (ppairs w us) + ppw (ppairs w us) : Nat) : Int)).toNat := ⟨_, rfl⟩
  obtain ⟨_, d2, d3, _, _, d6, _⟩ := pclose hgp
  rw [← hW2] at d2 d3 d6
  have hbl := pboth_lt hq
  have hbl2 : ∀ x ∈ pboth (ppairs w us) (ppw (ppairs w us)), x < 2 ^ W2 := fun x hx => Nat.lt_of_lt_of_le (hbl x hx) (Nat.pow_le_pow_right (by omega) d3)
  have hst := pall_st (w := w) (g := pgw (ppairs w us)) (p := ppw (ppairs w us)) hu63 (by omega) us.length (Nat.le_refl _) hq
  have hpe : pboth (pst w us us.length).1 (ppw (ppairs w us)) = pboth (ppairs w us) (ppw (ppairs w us)) := rfl
  rw [hpe, List.take_of_length_le (Nat.le_refl _), List.drop_eq_nil_of_le (by simp [plow]), List.append_nil] at hst
  have hback : omap (gnext s false (pbase l)) us = some l := omap_back (fun x hx u h => by
    have h2 := pone_step (hl x hx).1 (pbase_le hx) h
    unfold gnext
    rw [h2.1]
    exact if_pos ⟨rfl, (hl x hx).2⟩) hu
  have hll : (plow us w).length = us.length := by simp [plow]
  have hpl : (pboth (ppairs w us) (ppw (ppairs w us))).length = (ppairs w us).length := by simp [pboth]
  generalize hps : ppairs w us = ps at *
  generalize hpp : ppw ps = p at *
  generalize hgg : pgw ps = g at *
  have e0 : (UInt8.ofNat (32 * (pn (pbase l) - 1) + pcode p)).toNat = 32 * (pn (pbase l) - 1) + pcode p := byte_low (by omega)
  have e1 : (UInt8.ofNat (32 * (g - 1) + ps.length)).toNat = 32 * (g - 1) + ps.length := byte_low (by omega)
  have hlook : dlook (play (pbase l) us w ++ b) = (2, (pcode w : Int), (us.length : Int), UInt8.ofNat (32 * (pn (pbase l) - 1) + pcode p) :: UInt8.ofNat (32 * (g - 1) + ps.length) :: (pbased (pbase l) ++ (bpack (plow us w) w ++ (bpack (pboth ps p) W2 ++ b))), 0) := by
    unfold play pheadb
    rw [hps, hpp, hgg, ← hW2]
    simp only [List.append_assoc, List.cons_append, List.nil_append]
    exact dlook_head (k := 2) (by omega) c31 (by omega) (by omega) _
  unfold ptakeE
  rw [hlook]
  dsimp only
  rw [if_neg (by omega)]
  unfold pbody
  simp only [List.getD_cons_zero, List.getD_cons_succ, List.drop_succ_cons, List.drop_zero, List.length_cons, List.length_append, e0, e1, pbased_len]
  rw [if_neg (by omega), show (32 * (pn (pbase l) - 1) + pcode p) % 32 = pcode p by omega, pw, Int.toNat_natCast, show (32 * (pn (pbase l) - 1) + pcode p) / 32 + 1 = pn (pbase l) by omega, show (32 * (g - 1) + ps.length) / 32 + 1 = g by omega, show (32 * (g - 1) + ps.length) % 32 = ps.length by omega,
    if_neg (by omega), List.take_left' (pbased_len _), List.drop_left' (pbased_len _), pmade_back hbi hb]
  unfold pbits
  rw [cw, unpacksAny_in _ _ _ (by omega) (by omega), ← hll, unpacks_back (fun x hx => by
    obtain ⟨u, _, rfl⟩ := List.mem_map.1 hx
    exact Nat.mod_lt _ (Nat.two_pow_pos w))]
  dsimp only
  rw [if_neg (by decide), d6, unpacksAny_in _ _ _ (by omega) d2, ← hpl, unpacks_back hbl2]
  dsimp only
  rw [if_neg (by decide), hll]
  unfold pend
  rw [Int.toNat_natCast, Int.toNat_natCast, hst]
  dsimp only
  rw [hback]
end Go.Proofs.YtnbiopihcbnkpaaGreatDoor

/- What the walk of layer 10's Take asks, as plain mathematics. -/





namespace Go.Proofs.YtnbiopihcbnkpaaGreatDoor

open Go.RowKit

theorem ptakeE_head {l : List UInt8} {s : Bool} (h : (dlook l).2.2.2.2 ≠ 0 ∨ (dlook l).1 ≠ 2) : ptakeE l s = ([], [], 2) := by unfold ptakeE; rw [if_pos h]; rfl
theorem ptakeE_in {l r : List UInt8} {s : Bool} {c m : Int} (h : dlook l = (2, c, m, r, 0)) : ptakeE l s = pbody s c m r := by
  unfold ptakeE
  rw [h]
  exact if_neg (by simp)
theorem dlook_many {l r : List UInt8} {k c m : Int} (h : dlook l = (k, c, m, r, 0)) : 1 ≤ m := by
  by_cases h2 : l.length < 2
  · rw [dlook_short h2] at h; injection h with _ h; injection h with _ h; injection h with _ h; injection h with _ h; cases h
  · rw [dlook_long (X := 256 * l[0].toNat + l[1].toNat) (by omega) rfl] at h
    injection h with _ h; injection h with _ h; injection h with h _
    omega
theorem pbody_short {r : List UInt8} {s : Bool} {c m : Int} (h : r.length < 2) : pbody s c m r = ([], [], 2) := by unfold pbody; rw [if_pos h]; rfl
theorem pbody_eq {r d : List UInt8} {s : Bool} {c m : Int} {b0 b1 n g p t : Nat} (h2 : 2 ≤ r.length) (h0 : b0 = r[0].toNat) (h1 : b1 = r[1].toNat) (hn : n = b0 / 32 + 1) (hg : g = b1 / 32 + 1) (ht : t = b1 % 32) (hp : wof ((b0 % 32 : Nat) : Int) = (p : Int)) (hd : d = r.drop 2) :
    pbody s c m r = if 64 < g + p ∨ d.length < n then ([], [], 2) else pbits s (pmade (d.take n)) c m g p t (d.drop n) := by
  have e0 : (r.getD 0 0).toNat = b0 := by rw [h0, List.getD_eq_getElem?_getD, List.getElem?_eq_getElem (by omega)]; rfl
  have e1 : (r.getD 1 0).toNat = b1 := by rw [h1, List.getD_eq_getElem?_getD, List.getElem?_eq_getElem (by omega)]; rfl
  have ep : (wof ((b0 % 32 : Nat) : Int)).toNat = p := by rw [hp]; rfl
  unfold pbody
  rw [if_neg (by omega), e0, e1, ep, ← hn, ← hg, ← ht, ← hd, show r.length - 2 = d.length by rw [hd, List.length_drop]]
  rfl
theorem bval_cons (b : UInt8) (r : List UInt8) : bval (b :: r) = b.toNat * 256 ^ r.length + bval r := by simp [bval]
theorem bval_snoc_at (r : List UInt8) (k : Nat) (h : k < r.length) : bval (r.take (k + 1)) = 256 * bval (r.take k) + r[k].toNat := by
  rw [List.take_succ_eq_append_getElem h, bval_append]
  simp [bval]
  omega
/-- The base that bytes are, as a step from 0. -/
theorem pmade_step {x : List UInt8} {x0 S : Nat} (h1 : 1 ≤ x.length) (h8 : x.length ≤ 8) (hx : x0 = x[0].toNat) (hS : S = bval x % 2 ^ (8 * x.length - 1)) :
    gstep 0 S (decide (128 ≤ x0)) = (pmade x, true) ∧ inInt (pmade x) ∧ (S : Int) < 9223372036854775808 := by
  cases x with
  | nil => simp at h1
  | cons b r =>
    simp only [List.getElem_cons_zero] at hx
    rw [List.length_cons] at h8 hS
    obtain ⟨P, hP⟩ : ∃ P, P = 256 ^ r.length := ⟨_, rfl⟩
    have hpow : 2 ^ (8 * (r.length + 1) - 1) = 128 * P := by rw [hP, p256, show 8 * (r.length + 1) - 1 = 7 + 8 * r.length by omega, Nat.pow_add]
    have hR : bval r < P := by rw [hP]; exact bval_lt r
    have hPp : 0 < P := by omega
    have hPb : P ≤ 72057594037927936 := by
      rw [hP]
      have : 256 ^ r.length ≤ 256 ^ 7 := Nat.pow_le_pow_right (by omega) (by omega)
      omega
    have hS2 : S < 128 * P := by rw [hS, hpow]; exact Nat.mod_lt _ (by omega)
    have hge : (2 ^ (8 * (b :: r).length - 1) ≤ bval (b :: r)) ↔ 128 ≤ x0 := by
      rw [List.length_cons, hpow, bval_cons, ← hP, ← hx]
      constructor
      · intro h
        refine Nat.not_lt.1 fun h2 => ?_
        have h3 : (x0 + 1) * P ≤ 128 * P := Nat.mul_le_mul_right _ h2
        rw [Nat.add_mul] at h3
        omega
      · intro h
        have h3 : 128 * P ≤ x0 * P := Nat.mul_le_mul_right _ h
        omega
    have hpm : pmade (b :: r) = if 128 ≤ x0 then -(S : Int) else (S : Int) := by
      unfold pmade
      rw [List.length_cons, ← hS]
      rw [List.length_cons] at hge
      by_cases h : 128 ≤ x0
      · rw [if_pos h, if_pos (hge.2 h)]
      · rw [if_neg h, if_neg fun h2 => h (hge.1 h2)]
    have hS3 : (S : Int) < 9223372036854775808 := by omega
    refine ⟨?_, ?_, hS3⟩
    · rw [hpm]
      unfold gstep
      rw [if_neg (by omega)]
      by_cases h : 128 ≤ x0
      · rw [if_pos (decide_eq_true h), if_neg (by omega), if_pos h]; simp
      · rw [if_neg (by simpa using h), if_neg (by omega), if_neg h]; simp
    · rw [hpm]
      unfold inInt
      split <;> omega
theorem pmod_step {B y k : Nat} (hk : 1 ≤ k) (hy : y < 256) : (256 * B + y) % 2 ^ (8 * (k + 1) - 1) = 256 * (B % 2 ^ (8 * k - 1)) + y := by
  obtain ⟨M, hM⟩ : ∃ M, M = 2 ^ (8 * k - 1) := ⟨_, rfl⟩
  have hp : 0 < M := by rw [hM]; exact Nat.two_pow_pos _
  rw [show 2 ^ (8 * (k + 1) - 1) = 256 * M by rw [hM, show 8 * (k + 1) - 1 = 8 + (8 * k - 1) by omega, Nat.pow_add], ← hM]
  have h1 := Nat.div_add_mod B M
  have h2 := Nat.mod_lt B hp
  obtain ⟨q, hq⟩ : ∃ q, q = B / M := ⟨_, rfl⟩
  obtain ⟨t, ht⟩ : ∃ t, t = B % M := ⟨_, rfl⟩
  rw [← hq, ← ht] at h1
  rw [← ht] at h2 ⊢
  rw [show 256 * B + y = (256 * t + y) + (256 * M) * q by rw [← h1, Nat.mul_add, Nat.mul_assoc]; omega, Nat.add_mul_mod_self_left]
  exact Nat.mod_eq_of_lt (by omega)
theorem pbits_cut {s : Bool} {base : Int} {c m : Int} {g p t : Nat} {r q : List UInt8} {us : List Nat} {e : Int} (hu : unpacksAny r m (wof c) = (us, q, e)) (he : e ≠ 0) : pbits s base c m g p t r = ([], [], 2) := by
  unfold pbits; rw [hu]; dsimp only; rw [if_pos he]; rfl
theorem pbits_cut2 {s : Bool} {base : Int} {c m : Int} {g p t : Nat} {r q q2 : List UInt8} {us vs : List Nat} {e : Int} (hu : unpacksAny r m (wof c) = (us, q, 0)) (hv : unpacksAny q (t : Int) (wclosest ((g + p : Nat) : Int)) = (vs, q2, e)) (he : e ≠ 0) : pbits s base c m g p t r = ([], [], 2) := by
  unfold pbits; rw [hu]; dsimp only; rw [if_neg (by simp), hv]; dsimp only; rw [if_pos he]; rfl
theorem pbits_in {s : Bool} {base : Int} {c m : Int} {g p t : Nat} {r q q2 : List UInt8} {us vs : List Nat} (hu : unpacksAny r m (wof c) = (us, q, 0)) (hv : unpacksAny q (t : Int) (wclosest ((g + p : Nat) : Int)) = (vs, q2, 0)) : pbits s base c m g p t r = pend s base (wof c).toNat g p m.toNat us vs q2 := by
  unfold pbits; rw [hu]; dsimp only; rw [if_neg (by simp), hv]; dsimp only; rw [if_neg (by simp)]
theorem pend_none {s : Bool} {base : Int} {w g p m : Nat} {low both : List Nat} {q : List UInt8} (h : pall w g p m (0, low) both = none) : pend s base w g p m low both q = ([], [], 2) := by unfold pend; rw [h]; rfl
theorem pend_some {s : Bool} {base : Int} {w g p m a : Nat} {low both lf : List Nat} {q : List UInt8} (h : pall w g p m (0, low) both = some (a, lf)) : pend s base w g p m low both q = match omap (gnext s false base) lf with | none => ([], [], 2) | some xs => (xs, q, 0) := by unfold pend; rw [h]; rfl
theorem pall_take_none {w g p m : Nat} {st : Nat × List Nat} {both : List Nat} {k : Nat} (h : pall w g p m st (both.take k) = none) : pall w g p m st both = none := by
  rw [← List.take_append_drop k both, pall_append, h]
theorem pall_next {w g p m : Nat} {st st' : Nat × List Nat} {both : List Nat} {k v : Nat} (hk : k < both.length) (hv : v = both[k]) (h : pall w g p m st (both.take k) = some st') : pall w g p m st (both.take (k + 1)) = pstep w g p m st' v := by
  rw [List.take_succ_eq_append_getElem hk, pall_snoc, h, ← hv]
/-- One pair, of its parts. -/
theorem pstep_eq {w g p m at_ v gap patch : Nat} {low : List Nat} (hg : gap = v / 2 ^ p) (hp : patch = v % 2 ^ p) : pstep w g p m (at_, low) v = if gap < 2 ^ g ∧ at_ + gap < m ∧ (wbits patch + w ≤ 63 ∨ patch = 0) then some (at_ + gap, low.set (at_ + gap) (low.getD (at_ + gap) 0 ^^^ (patch * 2 ^ w))) else none := by
  unfold pstep
  rw [← hg, ← hp]
/-- A patch and the number there are below 2^64. -/
theorem patch_lt {w patch : Nat} (hp : patch < 2 ^ 64) (h : wbits patch + w ≤ 63 ∨ patch = 0) : patch * 2 ^ w < 2 ^ 63 := by
  rcases h with h | h
  · have h1 := wbits_lt hp
    have h2 : patch * 2 ^ w < 2 ^ wbits patch * 2 ^ w := Nat.mul_lt_mul_of_pos_right h1 (Nat.two_pow_pos _)
    rw [← Nat.pow_add] at h2
    exact Nat.lt_of_lt_of_le h2 (Nat.pow_le_pow_right (by omega) h)
  · rw [h, Nat.zero_mul]; exact Nat.two_pow_pos _
end Go.Proofs.YtnbiopihcbnkpaaGreatDoor

/- The contracts of varint and of its reference, said of opaque values that hold bytes. -/



namespace Go.Proofs.YtnbiopihcbnkpaaGreatDoor

open Go.RowKit

def TakenN (o : Option (Int × List UInt8)) : Int := match o with | none => 0 | some p => p.1
def TakenR (o : Option (Int × List UInt8)) : List UInt8 := match o with | none => [] | some p => p.2
def TakenE (o : Option (Int × List UInt8)) : Int := match o with | none => 2 | some _ => 0
theorem RetT.parts {k : IntKind} {w w' : World} {o : Option (Int × List UInt8)} {e : Ending} (h : RetT k w o e w') :
    ∃ r, e = .returned (.tuple #[.int k (TakenN o), r, .int .i64 (TakenE o)]) ∧ IsB (TakenR o) r w' ∧ Below w.heap.size w w' := by
  cases o with
  | none => exact ⟨_, h.1, isB_nil _, h.2⟩
  | some p =>
    obtain ⟨A, c, h1, h2, h3, h4, h5, h6⟩ := h
    exact ⟨_, h1, h5.isB, h6⟩
theorem RetT.owned {k : IntKind} {w w' : World} {o : Option (Int × List UInt8)} {e : Ending} (h : RetT k w o e w') :
    ∃ r, e = .returned (.tuple #[.int k (TakenN o), r, .int .i64 (TakenE o)]) ∧ OwnB w (TakenR o) r w' ∧ Below w.heap.size w w' := by
  cases o with
  | none => exact ⟨_, h.1, OwnB.nil _ _, h.2⟩
  | some p =>
    obtain ⟨A, c, h1, h2, h3, h4, h5, h6⟩ := h
    exact ⟨_, h1, h5, h6⟩
theorem takeInt_isB {l : List UInt8} {v : Value} {w : World} (s : Bool) (h : IsB l v w) (hl : l.length ≤ 1000000) : Calls Tryz.prog 80 #[v, .bool s] w (RetT .i64 w (vtint l s)) := by
  obtain ⟨A, c, rfl, h2, h3, h4, h5⟩ := h
  exact takeInt_any A _ c s l w h2 rfl h3 hl h5
theorem rtakeInt_isB {l : List UInt8} {v : Value} {w : World} (s : Bool) (h : IsB l v w) (hl : l.length ≤ 1000000) : Calls Tryz.prog 97 #[v, .bool s] w (RetT .i64 w (vtint l s)) := by
  obtain ⟨A, c, rfl, h2, h3, h4, h5⟩ := h
  exact rtakeInt_any A _ c s l w h2 rfl h3 hl h5
theorem putInt_isB {l : List UInt8} {v : Value} {w : World} (x : Int) (s : Bool) (h : IsB l v w) (hl : l.length ≤ 1000000) (h0 : -9223372036854775808 ≤ x) (h1 : x ≤ 9223372036854775807) :
    Calls Tryz.prog 78 #[v, .int .i64 x, .bool s] w fun e w' => ∃ v, e = .returned v ∧ IsB (l ++ vput (vint x s)) v w' ∧ Below w.heap.size w w' := by
  obtain ⟨A, c, rfl, h2, h3, h4, h5⟩ := h
  exact (putInt_any A _ c x s l w h2 rfl hl h5 h0 h1).mono fun _ _ h => h.isB
theorem rputInt_isB {l : List UInt8} {v : Value} {w : World} (x : Int) (s : Bool) (h : IsB l v w) (hl : l.length ≤ 1000000) (h0 : -9223372036854775808 ≤ x) (h1 : x ≤ 9223372036854775807) :
    Calls Tryz.prog 48 #[v, .int .i64 x, .bool s] w fun e w' => ∃ v, e = .returned v ∧ IsB (l ++ vput (vint x s)) v w' ∧ Below w.heap.size w w' := by
  obtain ⟨A, c, rfl, h2, h3, h4, h5⟩ := h
  exact (rputInt_any A _ c x s l w h2 rfl hl h5 h0 h1).mono fun _ _ h => h.isB
theorem putInt_isO {l : List UInt8} {v : Value} {w : World} (x : Int) (s : Bool) (h : IsB l v w) (hl : l.length ≤ 1000000) (h0 : -9223372036854775808 ≤ x) (h1 : x ≤ 9223372036854775807) :
    Calls Tryz.prog 78 #[v, .int .i64 x, .bool s] w (RetOwn w (l ++ vput (vint x s))) := by
  obtain ⟨A, c, rfl, h2, h3, h4, h5⟩ := h
  exact putInt_own A _ c x s l w h2 rfl hl h5 h0 h1
theorem rputInt_isO {l : List UInt8} {v : Value} {w : World} (x : Int) (s : Bool) (h : IsB l v w) (hl : l.length ≤ 1000000) (h0 : -9223372036854775808 ≤ x) (h1 : x ≤ 9223372036854775807) :
    Calls Tryz.prog 48 #[v, .int .i64 x, .bool s] w (RetOwn w (l ++ vput (vint x s))) := by
  obtain ⟨A, c, rfl, h2, h3, h4, h5⟩ := h
  exact rputInt_own A _ c x s l w h2 rfl hl h5 h0 h1
end Go.Proofs.YtnbiopihcbnkpaaGreatDoor

/- The contract of the reference's Unpack. -/





namespace Go.Proofs.YtnbiopihcbnkpaaGreatDoor

open Go.RowKit

def RUnpRel (l : List UInt8) (m M W : Nat) (w : World) (v at_ i : Value) (wr : World) : Prop :=
  ∃ k : Nat, k ≤ M ∧ at_ = .int .i64 ((W * k : Nat) : Int) ∧ i = .int .i64 (k : Int) ∧ wr.ownsRow w.heap.size 53 1 v k ((bnums (bval l) (8 * m) W k).map uv) ∧ Below w.heap.size w wr ∧ w.heap.size ≤ wr.heap.size
def RUnpRel2 (l : List UInt8) (m t W : Nat) (x at_ i : Value) : Prop :=
  ∃ j : Nat, at_ = .int .i64 ((t + j : Nat) : Int) ∧ i = .int .i64 (j : Int) ∧ x = .int .u64 ((btake (bval l) (8 * m) t j : Nat) : Int) ∧ j ≤ W

set_option maxHeartbeats 4000000 in
set_option maxRecDepth 100000 in
theorem runpack_own (A : Option Addr) (n c : Nat) (l : List UInt8) (M W : Nat) (w : World) (hA : A = none → n = 0) (hn : l.length = n) (hnc : n ≤ c) (hcm : c ≤ maxLen) (hnb : n ≤ 1000000) (hM : M ≤ 4096) (hW : W ≤ 64) (hl : Lies w A (l.map bv)) :
    Calls Tryz.prog 94 #[.slice A n c, .int .i64 (M : Int), .int .i64 (W : Int)] w (RetUO w (unpacks l M W)) := by
  have HN := Lib.hid hn
  have HCM := Lib.hid hcm
  clear hn hcm
  obtain ⟨m, hm⟩ : ∃ m, m = bsize M W := ⟨_, rfl⟩
  have hmW : W * M ≤ 8 * m := by rw [hm]; exact bsize_le M W
  have hm4 : m ≤ 32768 := by have := prod_le hM hW; unfold bsize at hm; omega
  have hsz := fun w => rsize_in M W w hM hW
  rw [← hm] at hsz
  have HS := Lib.hid hsz
  have HM := Lib.hid hm
  have HMW := Lib.hid hmW
  clear hsz hm hmW
  have d1 : decide ((M : Int) < 0) = false := decide_eq_false (by omega)
  have d2 : decide ((4096 : Int) < (M : Int)) = false := decide_eq_false (by omega)
  have d3 : decide ((W : Int) < 0) = false := decide_eq_false (by omega)
  have d4 : decide ((64 : Int) < (W : Int)) = false := decide_eq_false (by omega)
  by_cases hsh : n < m
  · have hun : unpacks l M W = ([], [], 2) := by unfold unpacks; rw [if_pos (by rw [HN.out, ← HM.out]; exact hsh)]
    have HU := Lib.hid hun
    clear hun
    go_enter Tryz.func94, Tryz.ntmps94
    go_wp2_with (go_at_call 91; refine (HS.out _).mono ?_; rintro e w' ⟨rfl, rfl⟩)
    go_ret3
    rw [HU.out]
    exact RetUO.nil _ (Below.refl _ _)
  · have hmn : m ≤ n := by omega
    obtain ⟨l', hl'⟩ : ∃ l', l' = l.take m := ⟨_, rfl⟩
    have hl'm : l'.length = m := by rw [hl', List.length_take]; have := HN.out; omega
    have hlies' : Lies w A (l'.map bv) := by rw [hl', List.map_take]; exact hl.take m
    have HL' := Lib.hid hl'
    have HLM := Lib.hid hl'm
    clear hl' hl'm
    have hb0 : Below w.heap.size w (w.alloc (.cells #[] 53)) := (Below.refl _ _).alloc (Nat.le_refl _) _
    have hown0 : (w.alloc (.cells #[] 53)).ownsRow w.heap.size 53 1 (.slice (some ⟨w.heap.size, 0, none⟩) 0 0) 0 [] := World.ownsRow_made w #[] 0 (Nat.le_refl _) (by unfold maxLen; omega) (by simp)
    go_enter Tryz.func94, Tryz.ntmps94
    go_wp2_with (go_at_call 91; refine (HS.out _).mono ?_; rintro e w' ⟨rfl, rfl⟩)
    go_loopw [10, 11, 12] (RUnpRel l' m M W w) (fun _ _ i _ => M - (intOf i).toNat)
    case atStart => exact ⟨0, by omega, rfl, rfl, by simpa [bnums] using hown0, hb0, by simp⟩
    case round =>
      obtain ⟨k, hkM, rfl, rfl, hown, hb, hwz⟩ := hrel
      clear hb0 hown0
      by_cases hlt : k < M
      · have hstep : W * k + W ≤ 8 * m := by
          have h1 : W * (k + 1) ≤ W * M := Nat.mul_le_mul_left _ hlt
          have := HMW.out
          rw [Nat.mul_add, Nat.mul_one] at h1
          omega
        obtain ⟨t, ht⟩ : ∃ t, t = W * k := ⟨_, rfl⟩
        rw [← ht] at hstep ⊢
        have HTT := Lib.hid ht
        clear ht
        go_wp2
        go_loop [13, 11, 14] (RUnpRel2 l' m t W) (fun _ _ i => W - (intOf i).toNat)
        case atStart => exact ⟨0, rfl, rfl, by rw [btake_zero]; rfl, by omega⟩
        case round =>
          obtain ⟨j, rfl, rfl, rfl, hj⟩ := hrel
          obtain ⟨X, hX⟩ : ∃ X, X = btake (bval l') (8 * m) t j := ⟨_, rfl⟩
          rw [← hX]
          by_cases hjW : j < W
          · obtain ⟨T, hT⟩ : ∃ T, T = t + j := ⟨_, rfl⟩
            rw [← hT]
            obtain ⟨q, hq⟩ : ∃ q, q = T / 8 := ⟨_, rfl⟩
            obtain ⟨r, hr⟩ : ∃ r, r = 8 - T % 8 := ⟨_, rfl⟩
            obtain ⟨d, hd⟩ : ∃ d, d = r - 1 := ⟨_, rfl⟩
            have hqi : (T : Int) / 8 = (q : Int) := by omega
            have hdi : 7 - (T : Int) % 8 = (d : Int) := by omega
            have hd8 : d ≤ 7 := by omega
            have hqn : q < n := by omega
            have hqm : (q : Int) < (n : Int) := by omega
            obtain ⟨hql, htb⟩ := btake_at (n := 1) hq hr hd HLM.out (by omega) (by omega) (show T + 1 ≤ 8 * m by omega)
            obtain ⟨ad, rfl, _, hcell⟩ := (hlies'.below hb).cell (k := q) (by simpa using hql)
            obtain ⟨B, hB⟩ : ∃ B, B = l'[q].toNat := ⟨_, rfl⟩
            have hB8 : B < 256 := by have := l'[q].toNat_lt; omega
            have hcB : wr.cell? (ad.add q) = some (.int .u8 (B : Int)) := by rw [hcell, List.getElem_map, hB]; rfl
            rw [← hB] at htb
            obtain ⟨β, hβ⟩ : ∃ β, β = btake (bval l') (8 * m) T 1 := ⟨_, rfl⟩
            rw [← hβ] at htb
            obtain ⟨E, hE⟩ : ∃ E, E = B / 2 ^ d := ⟨_, rfl⟩
            have hEi : (B : Int) / 2 ^ d = (E : Int) := by rw [hE]; simp
            have hE8 : E < 256 := by have := Nat.div_le_self B (2 ^ d); omega
            have hbit : bits .and .u8 (E : Int) 1 = (β : Int) := by
              rw [u8_and _ _ (by omega) (by omega) (by omega) (by omega), ← htb, ← hE, Int.toNat_natCast, show (1 : Int).toNat = 1 from rfl, nat_mask1]
            have hsum : X * 2 ^ 1 + β = btake (bval l') (8 * m) t (j + 1) := by rw [hX, hβ, hT]; exact btake_add (by omega)
            have hlt64 : X * 2 ^ 1 + β < 2 ^ 64 := by
              rw [hsum]
              have h1 := btake_lt (bval l') (8 * m) t (j + 1)
              have h2 : 2 ^ (j + 1) ≤ 2 ^ 64 := Nat.pow_le_pow_right (by omega) (by omega)
              omega
            obtain ⟨Y, hY⟩ : ∃ Y, Y = X * 2 ^ 1 := ⟨_, rfl⟩
            obtain ⟨Z, hZ⟩ : ∃ Z, Z = X * 2 ^ 1 + β := ⟨_, rfl⟩
            have hmu : IntKind.u64.wrap (2 * (X : Int)) = (Y : Int) := by rw [IntKind.wrap_u64]; omega
            have had : IntKind.u64.wrap ((Y : Int) + (β : Int)) = (Z : Int) := by rw [IntKind.wrap_u64]; omega
            rw [← hZ] at hsum
            have hβ1 : (β : Int) ≤ 1 := by omega
            have HSum := Lib.hid hsum
            have HT := Lib.hid hT
            have HB8 := Lib.hid hB8
            clear hq hr hd hE hβ hB hX hY hZ hsum hlt64 htb hcell hT hB8
            go_wp2
            go_round
            case rel => exact ⟨j + 1, by rw [HT.out]; go_num, by go_num, by rw [HSum.out], by omega⟩
            case measure => simp [intOf]; omega
          · obtain rfl : j = W := by omega
            have HX := Lib.hid hX
            clear hX
            go_wp2_with (at_builtin; go_must (refine wpList_push elemU rfl _ _ rfl w.heap.size _ k _ (.int .u64 (X : Int)) wr w rfl rfl rfl rfl hown hb hwz (by omega) (by omega) ?_))
            intro v5 w5 hown5 hb5 _ _
            have hu : Value.int .u64 (X : Int) = uv X := rfl
            have hnew : (bnums (bval l') (8 * m) j k).map uv ++ [Value.int .u64 (X : Int)] = (bnums (bval l') (8 * m) j (k + 1)).map uv := by
              rw [bnums_succ, List.map_append, hu, HX.out, HTT.out]; rfl
            rw [hnew] at hown5
            have hz5 := hb5.size
            clear hu hnew
            go_wp2
            go_roundw
            case rel => exact ⟨k + 1, by omega, by rw [Nat.mul_add, Nat.mul_one, ← HTT.out]; go_num, by go_num, hown5, hb5, hz5⟩
            case measure => simp [intOf]; omega
      · obtain rfl : k = M := by omega
        have hU : IsU (bnums (bval l') (8 * m) W k) _ wr := isU_own hown
        obtain ⟨L, hL⟩ : ∃ L, L = bnums (bval l') (8 * m) W k := ⟨_, rfl⟩
        rw [← hL] at hU
        have hLl : L.length = k := by rw [hL]; exact bnums_len _ _ _ _
        have HOWN := Lib.hid (show wr.ownsRow w.heap.size 53 1 _ L.length (L.map uv) by rw [hL, bnums_len]; exact hown)
        have hLW : ∀ x ∈ L, x < 2 ^ W := by rw [hL]; exact bnums_lt
        have hL64 : ∀ x ∈ L, x < 2 ^ 64 := fun x hx => Nat.lt_of_lt_of_le (hLW x hx) (Nat.pow_le_pow_right (by omega) hW)
        have hpk := bpack_bnums (l := l') (w := W) (n := k) (by rw [HLM.out, ← HM.out])
        rw [← HM.out, ← hL] at hpk
        have hun : unpacks l k W = if bval l' % 2 ^ (8 * m - W * k) = 0 then (L, l.drop m, 0) else ([], [], 2) := by
          unfold unpacks
          rw [← HM.out, if_neg (by rw [HN.out]; omega), ← HL'.out, ← hL]
        have hpc := rpack_is (W : Int) hU (by omega) hL64
        rw [packsAny_in _ _ hW, packs_ok hLW] at hpc
        have HPC := Lib.hid hpc
        have HPK := Lib.hid hpk
        have HUN := Lib.hid hun
        have HU := Lib.hid hU
        clear hL hLl hLW hL64 hpk hun hpc hU hown
        go_wp2_with (go_at_call 44; refine HPC.out.mono ?_; rintro e w5 ⟨v5, rfl, hv5, hb5⟩)
        have hBl : IsB l' (.slice A m c) wr := ⟨A, c, by rw [HLM.out], fun h => by rw [HLM.out]; have := hA h; omega, by rw [HLM.out]; omega, HCM.out, hlies'.below hb⟩
        have HV5 := Lib.hid hv5
        have HBL := Lib.hid (hBl.below hb5)
        have HB5 := Lib.hid hb5
        clear hv5 hBl hb5
        refine wp_region_list [.is v5, .is (.string ⟨(bpack L W).toArray⟩), .is (.slice A n c), .is (.int .i64 (m : Int)), .is (.slice A m c), .is (.string ⟨l'.toArray⟩), .is (.bool !(bpack L W == l'))] [some 75, some 76, some 77, some 78, some 79, some 80, some 81] (by kernel_rfl) (by kernel_rfl) (by kernel_rfl) rfl ⟨?_, ?_, ?_, ?_, ?_, ?_, ?_, trivial⟩ ?_
        · intro ρ W1 hb1 H
          exact gives_move rfl (H.old 15 _ (by kernel_rfl) rfl) ⟨rfl, Below.refl _ _⟩
        · intro ρ W1 hb1 H
          have e : ρ (.tmp 75) = v5 := H.new 75 0 (by kernel_rfl)
          exact gives_convert rfl e ((HV5.out.below hb1).text _ _ _ Tryz.underlying25 Tryz.underlying5 Tryz.underlying9) ⟨rfl, Below.refl _ _⟩
        · intro ρ W1 hb1 H
          exact gives_move rfl (H.old 0 _ (by kernel_rfl) rfl) ⟨rfl, Below.refl _ _⟩
        · intro ρ W1 hb1 H
          exact gives_move rfl (H.old 9 _ (by kernel_rfl) rfl) ⟨rfl, Below.refl _ _⟩
        · intro ρ W1 hb1 H
          exact gives_upto elemB rfl (H.new 77 2 (by kernel_rfl)) (H.new 78 3 (by kernel_rfl)) (show m ≤ c by omega) ⟨rfl, Below.refl _ _⟩
        · intro ρ W1 hb1 H
          have e : ρ (.tmp 79) = .slice A m c := H.new 79 4 (by kernel_rfl)
          exact gives_convert rfl e ((HBL.out.below hb1).text _ _ _ Tryz.underlying25 Tryz.underlying5 Tryz.underlying9) ⟨rfl, Below.refl _ _⟩
        · intro ρ W1 hb1 H
          exact gives_textne rfl (H.new 76 1 (by kernel_rfl)) (H.new 80 5 (by kernel_rfl)) ⟨rfl, Below.refl _ _⟩
        intro vs w6 hb6 hfs
        have f6 : vs 6 = .bool !(bpack L W == l') := hfs 6 (by decide)
        clear hfs
        simp only [putAll, Nat.zero_add, Nat.reduceAdd]
        generalize vs 0 = z0
        generalize vs 1 = z1
        generalize vs 2 = z2
        generalize vs 3 = z3
        generalize vs 4 = z4
        generalize vs 5 = z5
        simp only [f6, Act.put, List.setIfInBounds_toArray, List.set_cons_succ, List.set_cons_zero]
        clear f6
        by_cases hz : bval l' % 2 ^ (8 * m - W * k) = 0
        · have heq : (bpack L W == l') = true := by rw [beq_iff_eq]; exact HPK.out.2 hz
          have hun := HUN.out
          rw [if_pos hz] at hun
          have HU2 := Lib.hid hun
          clear hun hz
          simp only [heq, Bool.not_true]
          clear heq
          have hb7 : Below w6.heap.size w6 (w6.alloc (.cells #[] 5)) := (Below.refl _ _).alloc (Nat.le_refl _) _
          have hown7 : (w6.alloc (.cells #[] 5)).ownsRow w6.heap.size 5 1 (.slice (some ⟨w6.heap.size, 0, none⟩) 0 0) 0 [] := World.ownsRow_made w6 #[] 0 (Nat.le_refl _) (by unfold maxLen; omega) (by simp)
          have hbw6 := below_then (below_then hb HB5.out) hb6
          have hl7 := hl.below (below_then hbw6 hb7)
          have hz7 : w6.heap.size ≤ (w6.alloc (.cells #[] 5)).heap.size := by simp
          have hml : (l.map bv).length = n := by rw [List.length_map]; exact HN.out
          have HML := Lib.hid hml
          clear hml
          go_wp2_with (refine wpList_from elemB rfl _ _ rfl A n c m (l.map bv) rfl rfl hmn hnc HML.out hl7 hA ?_)
          intro B hlB hB
          have hdl : ((l.map bv).drop m).length = n - m := by rw [List.length_drop, HML.out]
          have HDL := Lib.hid hdl
          clear hdl
          go_wp2_with (at_builtin; refine wpList_join elemB rfl _ _ rfl w6.heap.size _ _ _ _ _ _ ((l.map bv).drop m) w6 rfl rfl hB HDL.out hlB (by rw [← List.map_drop]; exact bv_one _) hown7 hb7 hz7 (by omega) (by omega) ?_)
          intro v8 w8 hown8 hb8 _ _
          go_wp2
          go_ret3
          rw [HU2.out]
          refine ⟨_, _, rfl, own_below HOWN.out (below_then (below_then HB5.out hb6) hb8), ?_, below_then hbw6 hb8⟩
          rw [← List.map_drop] at hown8
          exact ⟨_, own_base hbw6.size hown8⟩
        · have heq : (bpack L W == l') = false := by rw [beq_eq_false_iff_ne]; exact fun h => hz (HPK.out.1 h)
          have hun := HUN.out
          rw [if_neg hz] at hun
          have HU2 := Lib.hid hun
          clear hun hz
          simp only [heq, Bool.not_false]
          clear heq
          go_wp2
          go_ret3
          rw [HU2.out]
          exact RetUO.nil _ (below_then (below_then hb HB5.out) hb6)
theorem runpack_out (A : Option Addr) (n c : Nat) (M W : Int) (w : World) (h : ¬ (0 ≤ M ∧ M ≤ 4096 ∧ 0 ≤ W ∧ W ≤ 64)) :
    Calls Tryz.prog 94 #[.slice A n c, .int .i64 M, .int .i64 W] w (RetUO w ([], [], 1)) := by
  rcases (by omega : M < 0 ∨ 4096 < M ∨ ((0 ≤ M ∧ M ≤ 4096) ∧ W < 0) ∨ ((0 ≤ M ∧ M ≤ 4096) ∧ 64 < W)) with h | h | ⟨⟨h1, h2⟩, h⟩ | ⟨⟨h1, h2⟩, h⟩
  · have d1 : decide (M < 0) = true := decide_eq_true (by omega)
    go_enter Tryz.func94, Tryz.ntmps94
    go_wp2
    go_ret3
    exact RetUO.nil _ (Below.refl _ _)
  · have d1 : decide (M < 0) = false := decide_eq_false (by omega)
    have d2 : decide (4096 < M) = true := decide_eq_true (by omega)
    go_enter Tryz.func94, Tryz.ntmps94
    go_wp2
    go_ret3
    exact RetUO.nil _ (Below.refl _ _)
  · have d1 : decide (M < 0) = false := decide_eq_false (by omega)
    have d2 : decide (4096 < M) = false := decide_eq_false (by omega)
    have d3 : decide (W < 0) = true := decide_eq_true (by omega)
    go_enter Tryz.func94, Tryz.ntmps94
    go_wp2
    go_ret3
    exact RetUO.nil _ (Below.refl _ _)
  · have d1 : decide (M < 0) = false := decide_eq_false (by omega)
    have d2 : decide (4096 < M) = false := decide_eq_false (by omega)
    have d3 : decide (W < 0) = false := decide_eq_false (by omega)
    have d4 : decide (64 < W) = true := decide_eq_true (by omega)
    go_enter Tryz.func94, Tryz.ntmps94
    go_wp2
    go_ret3
    exact RetUO.nil _ (Below.refl _ _)
theorem runpack_isO {l : List UInt8} {v : Value} {w : World} (M W : Int) (hl : IsB l v w) (h4 : l.length ≤ 1000000) :
    Calls Tryz.prog 94 #[v, .int .i64 M, .int .i64 W] w (RetUO w (unpacksAny l M W)) := by
  obtain ⟨A, c, rfl, h1, h2, h5, h3⟩ := hl
  by_cases h : 0 ≤ M ∧ M ≤ 4096 ∧ 0 ≤ W ∧ W ≤ 64
  · obtain ⟨K, rfl⟩ := Int.eq_ofNat_of_zero_le (show 0 ≤ M by omega)
    obtain ⟨J, rfl⟩ := Int.eq_ofNat_of_zero_le (show 0 ≤ W by omega)
    rw [unpacksAny_in _ _ _ (by omega) (by omega)]
    exact runpack_own A _ c l K J w h1 rfl h2 h5 h4 (by omega) (by omega) h3
  · unfold unpacksAny
    rw [if_neg h]
    exact runpack_out _ _ _ _ _ _ h
end Go.Proofs.YtnbiopihcbnkpaaGreatDoor

/- Contracts of layer 9's reference: Diff, Step. -/





namespace Go.Proofs.YtnbiopihcbnkpaaGreatDoor

open Go.RowKit

theorem wrap_sub {a b d : Int} (h : d = a - b) (h0 : 0 ≤ d) (h1 : d < 18446744073709551616) : IntKind.u64.wrap (IntKind.u64.wrap a - IntKind.u64.wrap b) = d := by
  rw [IntKind.wrap_u64, IntKind.wrap_u64, IntKind.wrap_u64]; omega
/-- What Diff answers. -/
def RetD (p : Nat × Bool × Bool) (e : Ending) : Prop := e = .returned (.tuple #[.int .u64 (p.1 : Int), .bool p.2.1, .bool p.2.2])
theorem rdiff9_any (a b : Int) (w : World) (ha : inInt a) (hb : inInt b) : Calls Tryz.prog 47 #[.int .i64 a, .int .i64 b] w fun e w' => RetD (gdiff a b) e ∧ w = w' := by
  unfold inInt at ha hb
  by_cases h : b < a
  · obtain ⟨d, hd⟩ : ∃ d, d = a - b := ⟨_, rfl⟩
    have hw := wrap_sub hd (by omega) (by omega)
    by_cases h2 : 9223372036854775808 ≤ d
    · have hE : Hid (gdiff a b = (0, false, false)) := Lib.hid (by unfold gdiff; rw [if_pos h, if_pos (by omega)])
      have d1 : decide (b < a) = true := decide_eq_true h
      have d2 : decide ((9223372036854775808 : Int) ≤ d) = true := decide_eq_true h2
      clear hd ha hb
      go_enter Tryz.func47, Tryz.ntmps47
      go_wp2
      refine bodyPost_ret (results_tmp3 rfl _ _ _) rfl ?_
      rw [hE.out]
      exact ⟨rfl, rfl⟩
    · have hE : Hid (gdiff a b = (d.toNat, true, true)) := Lib.hid (by unfold gdiff; rw [if_pos h, if_neg (by omega), hd])
      have d1 : decide (b < a) = true := decide_eq_true h
      have d2 : decide ((9223372036854775808 : Int) ≤ d) = false := decide_eq_false h2
      have HD := Lib.hid (show ((d.toNat : Nat) : Int) = d by omega)
      clear hd ha hb
      go_enter Tryz.func47, Tryz.ntmps47
      go_wp2
      refine bodyPost_ret (results_tmp3 rfl _ _ _) rfl ?_
      rw [hE.out]
      unfold RetD
      dsimp only
      rw [HD.out]
      exact ⟨rfl, rfl⟩
  · obtain ⟨d, hd⟩ : ∃ d, d = b - a := ⟨_, rfl⟩
    have hw := wrap_sub hd (by omega) (by omega)
    by_cases h2 : 9223372036854775808 ≤ d
    · have hE : Hid (gdiff a b = (0, false, false)) := Lib.hid (by unfold gdiff; rw [if_neg h, if_pos (by omega)])
      have d1 : decide (b < a) = false := decide_eq_false h
      have d2 : decide ((9223372036854775808 : Int) ≤ d) = true := decide_eq_true h2
      clear hd ha hb
      go_enter Tryz.func47, Tryz.ntmps47
      go_wp2
      refine bodyPost_ret (results_tmp3 rfl _ _ _) rfl ?_
      rw [hE.out]
      exact ⟨rfl, rfl⟩
    · have hE : Hid (gdiff a b = (d.toNat, false, true)) := Lib.hid (by unfold gdiff; rw [if_neg h, if_neg (by omega), hd])
      have d1 : decide (b < a) = false := decide_eq_false h
      have d2 : decide ((9223372036854775808 : Int) ≤ d) = false := decide_eq_false h2
      have HD := Lib.hid (show ((d.toNat : Nat) : Int) = d by omega)
      clear hd ha hb
      go_enter Tryz.func47, Tryz.ntmps47
      go_wp2
      refine bodyPost_ret (results_tmp3 rfl _ _ _) rfl ?_
      rw [hE.out]
      unfold RetD
      dsimp only
      rw [HD.out]
      exact ⟨rfl, rfl⟩
/-- What Step answers. -/
def RetG (p : Int × Bool) (e : Ending) : Prop := e = .returned (.tuple #[.int .i64 p.1, .bool p.2])
theorem rstep9_any (a U : Int) (f : Bool) (w : World) (ha : inInt a) (h0 : 0 ≤ U) (h1 : U < 18446744073709551616) : Calls Tryz.prog 96 #[.int .i64 a, .int .u64 U, .bool f] w fun e w' => RetG (gstep a U.toNat f) e ∧ w = w' := by
  unfold inInt at ha
  have hU : ((U.toNat : Nat) : Int) = U := by omega
  by_cases h2 : 9223372036854775808 ≤ U
  · have hE : Hid (gstep a U.toNat f = (0, false)) := Lib.hid (by unfold gstep; rw [hU, if_pos h2])
    have d2 : decide ((9223372036854775808 : Int) ≤ U) = true := decide_eq_true h2
    clear hU
    go_enter Tryz.func96, Tryz.ntmps96
    go_wp2
    go_ret2
    rw [hE.out]
    exact ⟨rfl, rfl⟩
  · have d2 : decide ((9223372036854775808 : Int) ≤ U) = false := decide_eq_false h2
    have hw1 : IntKind.i64.wrap U = U := by rw [IntKind.wrap_i64]; omega
    cases f with
    | true =>
      have hw2 : IntKind.i64.wrap (-9223372036854775808 + U) = -9223372036854775808 + U := by rw [IntKind.wrap_i64]; omega
      by_cases h3 : a < -9223372036854775808 + U
      · have hE : Hid (gstep a U.toNat true = (0, false)) := Lib.hid (by unfold gstep; rw [hU, if_neg h2, if_pos rfl, if_pos h3])
        have d3 : decide (a < -9223372036854775808 + U) = true := decide_eq_true h3
        clear hU
        go_enter Tryz.func96, Tryz.ntmps96
        go_wp2
        go_ret2
        rw [hE.out]
        exact ⟨rfl, rfl⟩
      · have hE : Hid (gstep a U.toNat true = (a - U, true)) := Lib.hid (by unfold gstep; rw [hU, if_neg h2, if_pos rfl, if_neg h3])
        have d3 : decide (a < -9223372036854775808 + U) = false := decide_eq_false h3
        have hw3 : IntKind.i64.wrap (a - U) = a - U := by rw [IntKind.wrap_i64]; omega
        clear hU
        go_enter Tryz.func96, Tryz.ntmps96
        go_wp2
        go_ret2
        rw [hE.out]
        exact ⟨rfl, rfl⟩
    | false =>
      have hw2 : IntKind.i64.wrap (9223372036854775807 - U) = 9223372036854775807 - U := by rw [IntKind.wrap_i64]; omega
      by_cases h3 : 9223372036854775807 - U < a
      · have hE : Hid (gstep a U.toNat false = (0, false)) := Lib.hid (by unfold gstep; rw [hU, if_neg h2, if_neg (by decide), if_pos h3])
        have d3 : decide (9223372036854775807 - U < a) = true := decide_eq_true h3
        clear hU
        go_enter Tryz.func96, Tryz.ntmps96
        go_wp2
        go_ret2
        rw [hE.out]
        exact ⟨rfl, rfl⟩
      · have hE : Hid (gstep a U.toNat false = (a + U, true)) := Lib.hid (by unfold gstep; rw [hU, if_neg h2, if_neg (by decide), if_neg h3])
        have d3 : decide (9223372036854775807 - U < a) = false := decide_eq_false h3
        have hw3 : IntKind.i64.wrap (a + U) = a + U := by rw [IntKind.wrap_i64]; omega
        clear hU
        go_enter Tryz.func96, Tryz.ntmps96
        go_wp2
        go_ret2
        rw [hE.out]
        exact ⟨rfl, rfl⟩
end Go.Proofs.YtnbiopihcbnkpaaGreatDoor

/- Numbers in the runs that are shortest (layer 11), as plain mathematics. -/





namespace Go.Proofs.YtnbiopihcbnkpaaGreatDoor

/-- How many numbers from the first one on are the same. -/
def usame (l : List Int) : Nat := match l with | [] => 0 | x :: r => 1 + (r.takeWhile (· == x)).length
theorem usame_cons (x : Int) (r : List Int) : usame (x :: r) = 1 + (r.takeWhile (· == x)).length := rfl
theorem usame_le (l : List Int) : usame l ≤ l.length := by
  cases l with
  | nil => exact Nat.le_refl _
  | cons x r =>
    have := (List.takeWhile_prefix (l := r) (· == x)).length_le
    rw [usame_cons, List.length_cons]
    omega
theorem usame_pos {l : List Int} (h : 1 ≤ l.length) : 1 ≤ usame l := by
  cases l with
  | nil => simp at h
  | cons x r => rw [usame_cons]; omega
theorem takeWhile_all {α : Type} {p : α → Bool} {l : List α} {k : Nat} (h : k ≤ (l.takeWhile p).length) : ∀ x ∈ l.take k, p x = true := by
  induction l generalizing k with
  | nil => simp
  | cons y l ih =>
    cases k with
    | zero => simp
    | succ k =>
      rw [List.takeWhile_cons] at h
      by_cases hy : p y = true
      · rw [if_pos hy, List.length_cons] at h
        intro x hx
        rw [List.take_succ_cons] at hx
        rcases List.mem_cons.1 hx with rfl | hx
        · exact hy
        · exact ih (by omega) x hx
      · rw [if_neg hy] at h; simp at h
/-- The first so many are the first one. -/
theorem usame_take {x : Int} {r : List Int} {k : Nat} (h : k ≤ usame (x :: r)) : (x :: r).take k = List.replicate k x := by
  cases k with
  | zero => rfl
  | succ k =>
    rw [List.take_succ_cons, List.replicate_succ]
    congr 1
    have h1 : k ≤ (r.takeWhile (· == x)).length := by rw [usame_cons] at h; omega
    refine List.eq_replicate_iff.2 ⟨?_, fun y hy => by simpa using takeWhile_all h1 y hy⟩
    have := (List.takeWhile_prefix (l := r) (· == x)).length_le
    rw [List.length_take]
    omega
/-- So many are the same just if each of them is the first one. -/
theorem usame_iff {l : List Int} {k : Nat} (hk : k < l.length) (h : k ≤ usame l) : k < usame l ↔ l[k] = l[0] := by
  cases l with
  | nil => simp at hk
  | cons x r =>
    cases k with
    | zero => simp; exact usame_pos (by simp)
    | succ k =>
      have h1 : k ≤ (r.takeWhile (· == x)).length := by rw [usame_cons] at h; omega
      rw [List.getElem_cons_succ, List.getElem_cons_zero]
      rw [List.length_cons] at hk
      have key : ∀ (r : List Int) (k : Nat) (hk : k < r.length), k ≤ (r.takeWhile (· == x)).length → (k < (r.takeWhile (· == x)).length ↔ r[k] = x) := by
        intro r
        induction r with
        | nil => intro k hk; simp at hk
        | cons y r ih =>
          intro k hk h
          rw [List.takeWhile_cons] at h ⊢
          by_cases hy : (y == x) = true
          · rw [if_pos hy, List.length_cons] at h ⊢
            cases k with
            | zero => simp; simpa using hy
            | succ k =>
              rw [List.getElem_cons_succ, ← ih k (by rw [List.length_cons] at hk; omega) (by omega)]
              omega
          · rw [if_neg hy] at h ⊢
            simp at h
            subst h
            simp
            simpa using hy
      rw [← key r k (by omega) h1, usame_cons]
      omega
/-- The shorter one of two runs, of which the second may be none. -/
def ushorter (a : List UInt8) (p : List UInt8 × Int) : List UInt8 := if p.2 = 0 ∧ (a.length = 0 ∨ p.1.length < a.length) then p.1 else a
def ucands0 (l : List Int) (s : Bool) : List (List UInt8 × Int) := (if usame l = l.length then [eput (l.headD 0) l.length s] else []) ++ [dputE l s, gputE l s]
def ucands (l : List Int) (s : Bool) : List (List UInt8 × Int) := ucands0 l s ++ (List.range 31).map fun c : Nat => pputE l (wof (c : Int)) s
/-- What Run answers. -/
def urunE (l : List Int) (s : Bool) : List UInt8 × Int := if dplain l s = none ∨ l.length < 1 ∨ 512 < l.length then ([], 1) else ((ucands l s).foldl ushorter [], 0)
/-- What Cut answers. -/
def ufind (l : List Int) (n : Nat) : Bool := decide (5 ≤ usame (l.drop n))
def ucut (l : List Int) : Nat := if 3 ≤ usame l then min (usame l) 512 else ((List.range' 1 (min l.length 512 - 1)).find? (ufind l)).getD (min l.length 512)
theorem ucut_bd {l : List Int} (h : 1 ≤ l.length) : 1 ≤ ucut l ∧ ucut l ≤ l.length ∧ ucut l ≤ 512 := by
  have h1 := usame_le l
  unfold ucut
  split
  · omega
  · cases hf : (List.range' 1 (min l.length 512 - 1)).find? (ufind l) with
    | none => rw [Option.getD_none]; omega
    | some n =>
      have := List.mem_range'_1.1 (List.mem_of_find?_eq_some hf)
      rw [Option.getD_some]
      omega
/-- What Put answers. -/
def uputN (s : Bool) : Nat → List Int → List UInt8 × Int
  | 0, _ => ([], 0)
  | k + 1, l =>
    if l.length = 0 then ([], 0)
    else if (urunE (l.take (ucut l)) s).2 ≠ 0 then ([], (urunE (l.take (ucut l)) s).2)
    else if (uputN s k (l.drop (ucut l))).2 ≠ 0 then ([], (uputN s k (l.drop (ucut l))).2)
    else ((urunE (l.take (ucut l)) s).1 ++ (uputN s k (l.drop (ucut l))).1, 0)
def uputE (l : List Int) (s : Bool) : List UInt8 × Int := if 4096 < l.length then ([], 3) else uputN s l.length l
/-- The run that bytes begin with. -/
def uone (b : List UInt8) (s : Bool) : List Int × List UInt8 × Int :=
  match b with
  | [] => ([], [], 2)
  | x :: _ => if x.toNat / 64 = 1 then dtakeE b s else if x.toNat / 64 = 2 then ptakeE b s else if x.toNat / 64 = 3 then gtakeE b s
    else (List.replicate (etake b s).2.1.toNat (etake b s).1, (etake b s).2.2.1, (etake b s).2.2.2)
def utakeN (s : Bool) (many : Nat) : Nat → List Int → List UInt8 → List Int × List UInt8 × Int
  | 0, _, _ => gbad
  | k + 1, out, rest =>
    if many ≤ out.length then (if many < out.length then gbad else (out, rest, 0))
    else if (uone rest s).2.2 ≠ 0 then gbad
    else utakeN s many k (out ++ (uone rest s).1) (uone rest s).2.1
/-- What Take answers. -/
def utakeE (b : List UInt8) (many : Int) (s : Bool) : List Int × List UInt8 × Int := if many < 0 ∨ 4096 < many then ([], [], 1) else utakeN s many.toNat (many.toNat + 1) [] b

/-- A run is one of those that may be. -/
theorem ushort_mem {cs : List (List UInt8 × Int)} : ∀ {a : List UInt8}, cs.foldl ushorter a = a ∨ (cs.foldl ushorter a, 0) ∈ cs := by
  induction cs with
  | nil => intro a; exact .inl rfl
  | cons c cs ih =>
    intro a
    rw [List.foldl_cons]
    rcases ih (a := ushorter a c) with h | h
    · rw [h]
      unfold ushorter
      split
      · rename_i hc
        right
        rw [show (c.1, (0 : Int)) = c from by rw [← hc.1]]
        exact List.mem_cons_self
      · exact .inl rfl
    · exact .inr (List.mem_cons_of_mem _ h)
/-- No longer than each that may be, and than what was there (if that is something). -/
theorem ushort_le {cs : List (List UInt8 × Int)} : ∀ {a : List UInt8}, (∀ p ∈ cs, p.2 = 0 → p.1.length ≠ 0) → ((1 ≤ a.length → 1 ≤ (cs.foldl ushorter a).length ∧ (cs.foldl ushorter a).length ≤ a.length) ∧ ∀ p ∈ cs, p.2 = 0 → 1 ≤ (cs.foldl ushorter a).length ∧ (cs.foldl ushorter a).length ≤ p.1.length) := by
  induction cs with
  | nil => intro a _; exact ⟨fun h => ⟨h, Nat.le_refl _⟩, fun _ h => by cases h⟩
  | cons c cs ih =>
    intro a hne
    rw [List.foldl_cons]
    obtain ⟨h1, h2⟩ := ih (a := ushorter a c) fun p hp => hne p (List.mem_cons_of_mem _ hp)
    have hc := hne c List.mem_cons_self
    refine ⟨fun ha => ?_, fun p hp h0 => ?_⟩
    · have h3 : 1 ≤ (ushorter a c).length ∧ (ushorter a c).length ≤ a.length := by
        unfold ushorter
        split
        · rename_i h; have := hc h.1; omega
        · exact ⟨ha, Nat.le_refl _⟩
      have := h1 h3.1
      omega
    · rcases List.mem_cons.1 hp with rfl | hp
      · have h4 := hc h0
        have h3 : 1 ≤ (ushorter a p).length ∧ (ushorter a p).length ≤ p.1.length := by
          unfold ushorter
          by_cases h : a.length = 0 ∨ p.1.length < a.length
          · rw [if_pos ⟨h0, h⟩]; omega
          · rw [if_neg fun h5 => h h5.2]; omega
        have := h1 h3.1
        omega
      · exact h2 p hp h0
end Go.Proofs.YtnbiopihcbnkpaaGreatDoor

/- Contracts of layer 8's reference: Put, Take. -/









namespace Go.Proofs.YtnbiopihcbnkpaaGreatDoor

open Go.RowKit

theorem rmost_is {l : List Nat} {v : Value} {w : World} (h : IsV uv l v w) (hb : l.length ≤ 1000000) (h64 : ∀ x ∈ l, x < 2 ^ 64) : Calls Tryz.prog 43 #[v] w fun e w' => e = .returned (.int .i64 (wmost l : Int)) ∧ w = w' := by
  obtain ⟨A, c, rfl, h2, h3, h4, h5⟩ := h
  exact rmost_any A _ c l w h2 rfl h3 hb h5 h64
theorem dputE_no {l : List Int} {s : Bool} (h : dplain l s = none) : dputE l s = ([], 1) := by unfold dputE; rw [h]
theorem dputE_len {l : List Int} {s : Bool} (h : l.length < 1 ∨ 512 < l.length) : dputE l s = ([], 1) := by
  unfold dputE
  cases dplain l s with
  | none => rfl
  | some u => dsimp only; rw [if_pos h]
theorem dputE_ok {l : List Int} {s : Bool} {u : List Nat} (h : dplain l s = some u) (h1 : 1 ≤ l.length) (h2 : l.length ≤ 512) : dputE l s = (dlay u, 0) := by
  unfold dputE
  rw [h]
  dsimp only
  rw [if_neg (by omega)]
theorem dpacks {u : List Nat} (h : ∀ x ∈ u, x < 2 ^ 64) : packsAny u (dwide u : Int) = (bpack u (dwide u), 0) := by
  obtain ⟨_, h2, h3⟩ := dwide_room h
  rw [packsAny_in _ _ h2, packs_ok h3]
theorem bsize_small {n W : Nat} (hn : n ≤ 512) (hW : W ≤ 64) : bsize n W ≤ 4096 := by
  unfold bsize
  have : n * W ≤ 512 * 64 := Nat.mul_le_mul hn hW
  omega
set_option maxHeartbeats 2000000 in
set_option maxRecDepth 100000 in
theorem rput8_any (l : List Int) (v : Value) (s : Bool) (w : World) (hv : IsV iv l v w) (hl : ∀ x ∈ l, inInt x) (hb : l.length ≤ 1000000) :
    Calls Tryz.prog 25 #[v, .bool s] w (RetE w (dputE l s)) := by
  have HP := Lib.hid (rplain8_any l v s w hv hl hb)
  obtain ⟨A, c, rfl, hA, hnc, hcm, hlw⟩ := hv
  obtain ⟨n, hn⟩ : ∃ n, n = l.length := ⟨_, rfl⟩
  rw [← hn] at hA hnc hb HP ⊢
  cases hd : dplain l s with
  | none =>
    have hE := Lib.hid (dputE_no hd)
    have hpe : dplainE l s = ([], 1) := by unfold dplainE; rw [hd]
    rw [hpe] at HP
    clear hn hlw hcm hA hd hpe
    go_enter Tryz.func25, Tryz.ntmps25
    go_wp2_with fail
    refine HP.out.mono ?_
    rintro e w1 ⟨u, rfl, hu, hb1⟩
    obtain ⟨A1, c1, rfl, _⟩ := hu
    go_wp2
    go_ret2
    rw [hE.out]
    exact RetE.nil _ hb1
  | some us =>
    have hpe : dplainE l s = (us, 0) := by unfold dplainE; rw [hd]
    rw [hpe] at HP
    have H64 := Lib.hid (dplain_lt hl hd)
    have hul := dplain_len hd
    rw [← hn] at hul
    by_cases hlen : n < 1 ∨ 512 < n
    · have hE := Lib.hid (dputE_len (l := l) (s := s) (by omega))
      clear hn hlw hcm hA hd hpe hul
      go_enter Tryz.func25, Tryz.ntmps25
      go_wp2_with fail
      refine HP.out.mono ?_
      rintro e w1 ⟨u, rfl, hu, hb1⟩
      obtain ⟨A1, c1, rfl, _⟩ := hu
      rcases hlen with h1 | h2
      · have d1 : decide ((n : Int) < 1) = true := decide_eq_true (by omega)
        go_wp2
        go_ret2
        rw [hE.out]
        exact RetE.nil _ hb1
      · have d1 : decide ((n : Int) < 1) = false := decide_eq_false (by omega)
        have d2 : decide ((512 : Int) < (n : Int)) = true := decide_eq_true (by omega)
        go_wp2
        go_ret2
        rw [hE.out]
        exact RetE.nil _ hb1
    · have hE := Lib.hid (dputE_ok hd (by omega) (by omega))
      have d1 : decide ((n : Int) < 1) = false := decide_eq_false (by omega)
      have d2 : decide ((512 : Int) < (n : Int)) = false := decide_eq_false (by omega)
      have hus : us.length ≤ 512 := by omega
      have hus1 : 1 ≤ us.length := by omega
      have HUL := Lib.hid hul
      obtain ⟨W, hW⟩ : ∃ W, W = dwide us := ⟨_, rfl⟩
      obtain ⟨C, hC⟩ : ∃ C, C = dcode us := ⟨_, rfl⟩
      have HW := Lib.hid hW
      have HC := Lib.hid hC
      have HCL := Lib.hid (fun X => rclosest_any (wmost us : Int) X)
      rw [dwide_int, ← hW] at HCL
      have HPK := Lib.hid (fun (u : Value) (X : World) (h : IsV uv us u X) => rpack_is (W : Int) (isU_iff.2 h) (by omega) H64.out)
      rw [hW, dpacks H64.out, ← hW] at HPK
      obtain ⟨hci, hc31, _⟩ := dcode_int H64.out
      have HCD := Lib.hid (fun X => rcode_any (W : Int) X)
      rw [hW, hci, ← hC, ← hW] at HCD
      have HHD := Lib.hid (fun X => rhead8_any 1 (C : Int) (n : Int) X)
      rw [show (1 : Int) = ((1 : Nat) : Int) from rfl, dhead_in (by omega) (by rw [hC]; exact hc31) (by omega) (by omega), show ((1 : Nat) : Int) = (1 : Int) from rfl] at HHD
      have hsz : (bpack us W).length ≤ 4096 := by rw [bpack_len]; exact bsize_small hus (by rw [hW]; exact (dwide_room H64.out).2.1)
      clear hn hlw hcm hA hd hpe hul hW hC hci hc31 hlen
      go_enter Tryz.func25, Tryz.ntmps25
      go_wp2_with fail
      refine HP.out.mono ?_
      rintro e w1 ⟨u, rfl, hu, hb1⟩
      obtain ⟨A1, c1, rfl, hr⟩ := hu
      have hu : IsV uv us (.slice A1 us.length c1) w1 := ⟨A1, c1, rfl, hr⟩
      have HB1 := Lib.hid hb1
      have HM := Lib.hid (rmost_is hu (by omega) H64.out)
      have HPK1 := Lib.hid (HPK.out _ w1 hu)
      clear hb1 hr hu
      go_wp2_with fail
      refine HM.out.mono ?_
      rintro e w' ⟨rfl, rfl⟩
      go_wp2_with fail
      refine (HCL.out _).mono ?_
      rintro e w' ⟨rfl, rfl⟩
      go_wp2_with fail
      refine HPK1.out.mono ?_
      rintro e w2 ⟨pk, rfl, hpk, hb2⟩
      obtain ⟨A2, c2, rfl, hA2, hn2, hm2, hl2⟩ := hpk
      have HB2 := Lib.hid (below_then HB1.out hb2)
      clear hb2
      go_wp2_with fail
      refine (HCD.out _).mono ?_
      rintro e w' ⟨rfl, rfl⟩
      go_wp2_with fail
      refine (HHD.out _).mono ?_
      rintro e w3 ⟨hv3, rfl, hh, hb3⟩
      rw [dheadN_len] at hh
      have hz3 := hb3.size
      have hl3 := hl2.below hb3
      have HB3 := Lib.hid (below_then HB2.out hb3)
      obtain ⟨pl, hpl⟩ : ∃ pl, pl = (bpack us W).length := ⟨_, rfl⟩
      have hpm : ((bpack us W).map bv).length = pl := by rw [List.length_map, hpl]
      have HPM := Lib.hid hpm
      rw [← hpl] at hsz hA2 hn2 ⊢
      have HPL := Lib.hid hpl
      obtain ⟨xs, hxs⟩ : ∃ xs, xs = (dheadN 1 C n).map bv := ⟨_, rfl⟩
      rw [← hxs] at hh
      have HXS := Lib.hid hxs
      clear hpm hpl hxs
      go_wp2_with (at_builtin; refine wpList_join elemB rfl _ _ rfl w2.heap.size _ _ _ _ _ _ ((bpack us W).map bv) w2 rfl rfl hA2 HPM.out hl3 (bv_one _) hh hb3 hz3 (by omega) (by omega) ?_)
      intro v4 w4 hown4 hb4 _ _
      have HO := Lib.hid (show IsB (dlay us) v4 w4 by
        have e1 : dlay us = dheadN 1 C n ++ bpack us W := by unfold dlay; rw [HUL.out, ← HC.out, ← HW.out]
        rw [e1]
        refine isB_own (n := 2 + pl) (base := w2.heap.size) (e := 5) ?_
        rw [List.map_append, ← HXS.out]
        exact hown4)
      have HB4 := Lib.hid (below_then HB2.out hb4)
      clear hown4 hb4 hh hb3 hz3 hl3
      go_wp2
      go_ret2
      rw [hE.out]
      exact ⟨_, rfl, HO.out, HB4.out⟩
theorem dtakeE_no {l : List UInt8} {s : Bool} (h : (dlook l).2.2.2.2 ≠ 0 ∨ (dlook l).1 ≠ 1) : dtakeE l s = ([], [], 2) := by unfold dtakeE; rw [if_pos h]
theorem dtakeE_cut {l : List UInt8} {c m : Int} {r : List UInt8} {s : Bool} (h : dlook l = (1, c, m, r, 0)) {u : List Nat} {q : List UInt8} {x : Int} (hu : unpacksAny r m (wof c) = (u, q, x)) (hx : x ≠ 0) : dtakeE l s = ([], [], 2) := by
  unfold dtakeE
  rw [h]
  dsimp only
  rw [if_neg (by decide), hu]
  dsimp only
  rw [if_pos hx]
theorem dtakeE_bad {l : List UInt8} {c m : Int} {r : List UInt8} {s : Bool} (h : dlook l = (1, c, m, r, 0)) {u : List Nat} {q : List UInt8} (hu : unpacksAny r m (wof c) = (u, q, 0)) (hm : dmade u s = none) : dtakeE l s = ([], [], 2) := by
  unfold dtakeE
  rw [h]
  dsimp only
  rw [if_neg (by decide), hu]
  dsimp only
  rw [if_neg (by decide), hm]
/-- Numbers, bytes and an error that a call answers. -/
def RetIB (w : World) (p : List Int × List UInt8 × Int) (e : Ending) (w' : World) : Prop := ∃ u v, e = .returned (.tuple #[u, v, .int .i64 p.2.2]) ∧ IsV iv p.1 u w' ∧ IsB p.2.1 v w' ∧ Below w.heap.size w w'
theorem RetIB.nil {w w' : World} (n : Int) (hb : Below w.heap.size w w') : RetIB w ([], [], n) (.returned (.tuple #[.slice none 0 0, .slice none 0 0, .int .i64 n])) w' := ⟨_, _, rfl, isV_nil _ _, isB_nil _, hb⟩
/-- The same, the bytes in a row of the call's own. -/
def RetIO (w : World) (p : List Int × List UInt8 × Int) (e : Ending) (w' : World) : Prop := ∃ u v, e = .returned (.tuple #[u, v, .int .i64 p.2.2]) ∧ IsV iv p.1 u w' ∧ OwnB w p.2.1 v w' ∧ Below w.heap.size w w'
theorem RetIO.nil {w w' : World} (n : Int) (hb : Below w.heap.size w w') : RetIO w ([], [], n) (.returned (.tuple #[.slice none 0 0, .slice none 0 0, .int .i64 n])) w' := ⟨_, _, rfl, isV_nil _ _, OwnB.nil _ _, hb⟩
theorem RetIO.ib {w w' : World} {p : List Int × List UInt8 × Int} {e : Ending} (h : RetIO w p e w') : RetIB w p e w' := by
  obtain ⟨u, v, h1, h2, h3, h4⟩ := h
  exact ⟨u, v, h1, h2, h3.isB, h4⟩
theorem dlook_bd (l : List UInt8) : 0 ≤ (dlook l).1 ∧ (dlook l).1 ≤ 65536 ∧ 0 ≤ (dlook l).2.1 ∧ (dlook l).2.1 ≤ 31 ∧ 0 ≤ (dlook l).2.2.1 ∧ (dlook l).2.2.1 ≤ 512 ∧ (dlook l).2.2.2.1.length ≤ l.length := by
  unfold dlook
  split
  · simp
  · rename_i h
    have h1 := (bval_two (l := l) (by omega)).2
    dsimp only
    rw [List.length_drop]
    omega
theorem unpacks_lt {l : List UInt8} {M W : Nat} (hW : W ≤ 64) : ∀ x ∈ (unpacks l M W).1, x < 2 ^ 64 := by
  intro x hx
  unfold unpacks at hx
  split at hx
  · simp at hx
  · split at hx
    · exact Nat.lt_of_lt_of_le (bnums_lt x hx) (Nat.pow_le_pow_right (by omega) hW)
    · simp at hx
theorem unpacks_many {l : List UInt8} {M W : Nat} : (unpacks l M W).1.length ≤ M := by
  unfold unpacks
  split
  · simp
  · split
    · rw [bnums_len]; exact Nat.le_refl _
    · simp
theorem unpacksAny_lt {l : List UInt8} {M W : Int} : (∀ x ∈ (unpacksAny l M W).1, x < 2 ^ 64) ∧ (unpacksAny l M W).1.length ≤ 4096 := by
  unfold unpacksAny
  split
  · exact ⟨unpacks_lt (by omega), Nat.le_trans unpacks_many (by omega)⟩
  · simp
set_option maxHeartbeats 2000000 in
set_option maxRecDepth 100000 in
theorem rtake8_own (l : List UInt8) (v : Value) (s : Bool) (w : World) (hv : IsB l v w) (hb : l.length ≤ 1000000) :
    Calls Tryz.prog 54 #[v, .bool s] w (RetIO w (dtakeE l s)) := by
  have HLK := Lib.hid (rlook8_any l v w hv hb)
  obtain ⟨A, c, rfl, _⟩ := hv
  have hbd := dlook_bd l
  obtain ⟨K, C, M, r, x, hd⟩ : ∃ K C M r x, dlook l = (K, C, M, r, x) := ⟨_, _, _, _, _, rfl⟩
  rw [hd] at HLK hbd
  dsimp only at hbd
  obtain ⟨hK0, hK1, hC0, hC1, hM0, hM1, hr⟩ := hbd
  by_cases hx : x = 0
  · subst hx
    by_cases hK : K = 1
    · subst hK
      have HD := Lib.hid hd
      obtain ⟨us, q, y, hu⟩ : ∃ us q y, unpacksAny r M (wof C) = (us, q, y) := ⟨_, _, _, rfl⟩
      have hlt := (unpacksAny_lt (l := r) (M := M) (W := wof C)).1
      have hmany := (unpacksAny_lt (l := r) (M := M) (W := wof C)).2
      rw [hu] at hlt hmany
      dsimp only at hlt hmany
      have HU := Lib.hid hu
      have HLT := Lib.hid hlt
      have HOF := Lib.hid (fun X => rof_any C X (by omega) (by omega))
      obtain ⟨W, hW⟩ : ∃ W, W = wof C := ⟨_, rfl⟩
      rw [← hW] at HOF HU
      have HUN := Lib.hid (fun (u : Value) (X : World) (h : IsB r u X) => runpack_isO M W h (by omega))
      rw [HU.out] at HUN
      have HWW := Lib.hid hW
      clear hd hu hlt hW
      by_cases hy : y = 0
      · subst hy
        have HMD := Lib.hid (fun (u : Value) (X : World) (h : IsV uv us u X) => rmade8_any us u s X h HLT.out (by omega))
        cases hm : dmade us s with
        | none =>
          have hpe : dmadeE us s = ([], 2) := by unfold dmadeE; rw [hm]
          rw [hpe] at HMD
          have hE := Lib.hid (dtakeE_bad (s := s) HD.out (by rw [← HWW.out]; exact HU.out) hm)
          clear hm hpe
          go_enter Tryz.func54, Tryz.ntmps54
          go_wp2_with fail
          refine HLK.out.mono ?_
          rintro e w1 ⟨rv, rfl, hrv, hb1⟩
          have HB1 := Lib.hid hb1
          have HRV := Lib.hid hrv
          clear hb1 hrv
          go_wp2_with fail
          refine (HOF.out _).mono ?_
          rintro e w' ⟨rfl, rfl⟩
          go_wp2_with fail
          refine (HUN.out _ _ HRV.out).mono ?_
          rintro e w2 ⟨u2, q2, rfl, hu2, hq2, hb2⟩
          have HB2 := Lib.hid (below_then HB1.out hb2)
          have HI := Lib.hid (isV_own (f := uv) hu2)
          have HQ := Lib.hid (OwnB.base HB1.out.size hq2)
          clear hb2 hu2 hq2
          go_wp2_with fail
          refine (HMD.out _ _ HI.out).mono ?_
          rintro e w3 ⟨m, rfl, hm3, hb3⟩
          obtain ⟨A3, c3, rfl, _⟩ := hm3
          go_wp2
          go_ret3
          rw [hE.out]
          exact RetIO.nil _ (below_then HB2.out hb3)
        | some m =>
          have hpe : dmadeE us s = (m, 0) := by unfold dmadeE; rw [hm]
          rw [hpe] at HMD
          have hE := Lib.hid (dtakeE_ok (s := s) HD.out (by rw [← HWW.out]; exact HU.out) hm)
          clear hm hpe
          go_enter Tryz.func54, Tryz.ntmps54
          go_wp2_with fail
          refine HLK.out.mono ?_
          rintro e w1 ⟨rv, rfl, hrv, hb1⟩
          have HB1 := Lib.hid hb1
          have HRV := Lib.hid hrv
          clear hb1 hrv
          go_wp2_with fail
          refine (HOF.out _).mono ?_
          rintro e w' ⟨rfl, rfl⟩
          go_wp2_with fail
          refine (HUN.out _ _ HRV.out).mono ?_
          rintro e w2 ⟨u2, q2, rfl, hu2, hq2, hb2⟩
          have HB2 := Lib.hid (below_then HB1.out hb2)
          have HI := Lib.hid (isV_own (f := uv) hu2)
          have HQ := Lib.hid (OwnB.base HB1.out.size hq2)
          clear hb2 hu2 hq2
          go_wp2_with fail
          refine (HMD.out _ _ HI.out).mono ?_
          rintro e w3 ⟨m3, rfl, hm3, hb3⟩
          have HQ3 := Lib.hid (HQ.out.below hb3)
          have HM3 := Lib.hid hm3
          have HB3 := Lib.hid (below_then HB2.out hb3)
          clear hm3 hb3
          go_wp2
          go_ret3
          rw [hE.out]
          exact ⟨_, _, rfl, HM3.out, HQ3.out, HB3.out⟩
      · have hE := Lib.hid (dtakeE_cut (s := s) HD.out (by rw [← HWW.out]; exact HU.out) hy)
        have d2 : (y != 0) = true := by simpa using hy
        go_enter Tryz.func54, Tryz.ntmps54
        go_wp2_with fail
        refine HLK.out.mono ?_
        rintro e w1 ⟨rv, rfl, hrv, hb1⟩
        have HB1 := Lib.hid hb1
        have HRV := Lib.hid hrv
        clear hb1 hrv
        go_wp2_with fail
        refine (HOF.out _).mono ?_
        rintro e w' ⟨rfl, rfl⟩
        go_wp2_with fail
        refine (HUN.out _ _ HRV.out).mono ?_
        rintro e w2 ⟨u2, q2, rfl, hu2, hq2, hb2⟩
        have HB2 := Lib.hid (below_then HB1.out hb2)
        have HI := Lib.hid (isV_own (f := uv) hu2)
        have HQ := Lib.hid (OwnB.base HB1.out.size hq2)
        clear hb2 hu2 hq2
        go_wp2
        go_ret3
        rw [hE.out]
        exact RetIO.nil _ HB2.out
    · have hE := Lib.hid (dtakeE_no (l := l) (s := s) (.inr (by rw [hd]; exact hK)))
      have d1 : (K != 1) = true := by simpa using hK
      clear hd
      go_enter Tryz.func54, Tryz.ntmps54
      go_wp2_with fail
      refine HLK.out.mono ?_
      rintro e w1 ⟨rv, rfl, hrv, hb1⟩
      go_wp2
      go_ret3
      rw [hE.out]
      exact RetIO.nil _ hb1
  · have hE := Lib.hid (dtakeE_no (l := l) (s := s) (.inl (by rw [hd]; exact hx)))
    have d1 : (x != 0) = true := by simpa using hx
    clear hd
    go_enter Tryz.func54, Tryz.ntmps54
    go_wp2_with fail
    refine HLK.out.mono ?_
    rintro e w1 ⟨rv, rfl, hrv, hb1⟩
    go_wp2
    go_ret3
    rw [hE.out]
    exact RetIO.nil _ hb1
end Go.Proofs.YtnbiopihcbnkpaaGreatDoor

/- The library's contract of math/bits.Mul, laid at this program's numbers. -/





namespace Go.Proofs

open Go.Shelf
def Tryz.lays212_ren : Go.Shelf.Ren := ⟨fun | 212 => 104 | 263 => 135 | 264 => 136 | n => n, fun | 46 => 69 | 51 => 141 | 53 => 53 | 146 => 142 | 148 => 144 | n => n, fun | n => n⟩
theorem Tryz.lays212 : Go.Proofs.Lays.n212 Tryz.prog Tryz.lays212_ren := {
  mixed := by kernel_rfl
  f212 := Tryz.func104.trans (congrArg some (by kernel_rfl))
  f263 := Tryz.func135.trans (congrArg some (by kernel_rfl))
  f264 := Tryz.func136.trans (congrArg some (by kernel_rfl))
  t46 := Tryz.underlying69
  a46 := Tryz.isAgg69
  z46 := Tryz.sizeOf69
  v46 := Tryz.zeroValue69
  t51 := Tryz.underlying141
  a51 := Tryz.isAgg141
  z51 := Tryz.sizeOf141
  v51 := Tryz.zeroValue141
  t53 := Tryz.underlying53
  a53 := Tryz.isAgg53
  z53 := Tryz.sizeOf53
  v53 := Tryz.zeroValue53
  t146 := Tryz.underlying142
  a146 := Tryz.isAgg142
  z146 := Tryz.sizeOf142
  v146 := Tryz.zeroValue142
  t148 := Tryz.underlying144
  a148 := Tryz.isAgg144
  z148 := Tryz.sizeOf144
  v148 := Tryz.zeroValue144 }
theorem Tryz.bits_Mul (x y : Nat) (hx : x < 18446744073709551616) (hy : y < 18446744073709551616) (w : World) :
    Calls Tryz.prog 104 #[.int .u64 x, .int .u64 y] w fun e w' => e = .returned (.tuple #[.int .u64 ((x * y / 18446744073709551616 : Nat) : Int), .int .u64 ((x * y % 18446744073709551616 : Nat) : Int)]) ∧ w' = w := Any.bits_Mul Tryz.lays212 x y hx hy w
end Go.Proofs

/- Arrays by value: a block that is made, loaded and stored whole. Over any program. -/





namespace Go.Proofs.YtnbiopihcbnkpaaGreatDoor

open Go.RowKit

/-- Cells that are all the same. (A name of its own: the walk's simp writes List.replicate out.) -/
def zeroRow (n : Nat) (z : Value) : List Value := List.replicate n z
/-- The facts on an array type of n elements of one cell. -/
structure ArrT (P : Program) (t e : TypeId) (n : Nat) (z : Value) : Prop where
  under : P.underlying t = some (.array n e)
  info : (P.info? t).map (fun i => (i.zero, i.size)) = some (some (.agg (zeroRow n z).toArray), n)
theorem ArrT.size_ {P : Program} {t e : TypeId} {n : Nat} {z : Value} (E : ArrT P t e n z) : (P.info? t).map (·.size) = some n := (zero_of_info E.info).2

section

variable {P : Program} {w : World} {ops : Array Oper} {rest : List Oper} {o : Oper} {a : Act} {Q : Exit → Act → World → Prop} {t e : TypeId} {n : Nat} {z : Value}
end
end Go.Proofs.YtnbiopihcbnkpaaGreatDoor

/- A region that draws, each operation shown once, over ANY relation of worlds (XRegion: over 'old memory as it was'): for a region that also writes: the relation says what each operation leaves as it was; a fact may speak of the values of what its operation waits for. -/



namespace Go.Proofs.YtnbiopihcbnkpaaGreatDoor

open Go.RowKit

/-- A relation of worlds that regions may go by. -/
structure Later (R : World → World → Prop) : Prop where
  refl : ∀ w, R w w
  trans : ∀ {a b c}, R a b → R b c → R a c
  draw : ∀ w, R w { w with drawn := w.drawn + 1 }
def upd (vs : Nat → Value) (i : Nat) (v : Value) : Nat → Value := fun j => if j = i then v else vs j
theorem upd_at (vs : Nat → Value) (i : Nat) (v : Value) : upd vs i v i = v := if_pos rfl
theorem upd_ne (vs : Nat → Value) {i j : Nat} (v : Value) (h : j ≠ i) : upd vs i v j = vs j := if_neg h
/-- What is known of what an operation sees. -/
structure RCtxR (ops : Array Oper) (F : Nat → (Nat → Value) → World → Prop) (a0 : Act) (i : Nat) (ρ : Operand → Value) (vs : Nat → Value) (w : World) : Prop where
  const : ∀ v, ρ (.const v) = v
  func : ∀ f, ρ (.func f) = .func (.func f) #[] #[]
  glob : ∀ g, ρ (.global g) = .pointer (some ⟨g, 0, none⟩)
  new : ∀ d j, writer ops i d = some j → ρ (.tmp d) = vs j
  fact : ∀ j, rpred ops j i = true → F j vs w
  old : ∀ d v, writer ops i d = none → a0.eval (.tmp d) = v → ρ (.tmp d) = v
theorem writer_pred {ops : Array Oper} {i d j : Nat} (h : writer ops i d = some j) : rpred ops j i = true := by
  have h1 := List.find?_some h
  simp at h1
  exact h1.2
section

variable {P : Program} {ops : Array Oper} {Q : Exit → Act → World → Prop} {R : World → World → Prop}
/-- **A region that draws, whose first m operations are each shown once** (the frame: as the text's order gives it); what follows them is shown from where all these have been done. -/
theorem wpAny_region_coreR (HR : Later R) {a0 : Act} {w0 : World} (m : Nat) (hm : m ≤ ops.size) (F : Nat → (Nat → Value) → World → Prop)
    (hok : regionOk ops a0.tmps.size = true)
    (hF : ∀ i vs w w', F i vs w → R w w' → F i vs w')
    (hloc : ∀ i vs vs' w, (∀ k, (k = i ∨ rpred ops k i = true) → vs k = vs' k) → F i vs w → F i vs' w)
    (hstep : ∀ i o, i < m → ops[i]? = some o → ∀ (vs : Nat → Value) (w : World), R w0 w → (∀ j, rpred ops j i = true → F j vs w) →
      if Region.wanted o (yielded ops (puts ops (fun _ => true) vs i a0).tmps) = true then
        o.wp P (puts ops (fun _ => true) vs i a0) w (fun a' w' => ∃ v, a' = (puts ops (fun _ => true) vs i a0).put o.dst v ∧ F i (upd vs i v) w' ∧ R w w') (fun _ _ _ => False)
      else F i (upd vs i undef) w)
    (hwait : ∀ l : Array Bool, HeadInv .any ops m l → (∃ i, i < m ∧ l.getD i true = false) → ∀ t, m ≤ t → t ∉ Region.ready .any ops l)
    (hfin : ∀ (l : Array Bool) (vs : Nat → Value) (w : World), l.size = ops.size → (∀ j, j < m → l.getD j false = true) → (∀ j, m ≤ j → j < ops.size → l.getD j false = false) → R w0 w → (∀ i, i < m → F i vs w) →
      wpAny P .any ops Q (ops.size - m) l (puts ops (fun _ => true) vs m a0) w) :
    wpAny P .any ops Q ops.size (Array.replicate ops.size false) a0 { w0 with drawn := w0.drawn + 1 } := by
  have main : ∀ (fuel : Nat) (l : Array Bool) (vs : Nat → Value) (w : World), l.size = ops.size → left m l ≤ fuel → (∀ i j, i < ops.size → l.getD i false = true → rpred ops j i = true → l.getD j false = true) →
      (∀ t, m ≤ t → t < ops.size → l.getD t false = false) →
      (∀ i, i < ops.size → l.getD i false = true → F i vs w) → R w0 w → wpAny P .any ops Q (fuel + (ops.size - m)) l (puts ops (fun j => l.getD j false) vs ops.size a0) w := by
    intro fuel
    have hend : ∀ (f : Nat) (l : Array Bool) (vs : Nat → Value) (w : World), l.size = ops.size → (∀ t, m ≤ t → t < ops.size → l.getD t false = false) → (∀ i, i < ops.size → l.getD i false = true → F i vs w) → R w0 w → (∀ j, j < m → l.getD j false = true) →
        wpAny P .any ops Q (f + (ops.size - m)) l (puts ops (fun j => l.getD j false) vs ops.size a0) w := by
      intro f l vs w hs htl hfs hb hall
      rw [puts_cut _ vs a0 m ops.size hm htl, puts_congr (fun j => l.getD j false) (fun _ => true) vs vs a0 m hall (fun _ _ _ => rfl)]
      exact wpAny_add _ _ _ _ _ (hfin l vs w hs hall htl hb fun i hi => hfs i (by omega) (hall i hi))
    induction fuel with
    | zero =>
      intro l vs w hs hl hcl htl hfs hb
      refine hend 0 l vs w hs htl hfs hb fun j hj => ?_
      cases h1 : l.getD j false with
      | true => rfl
      | false => have := left_set_in hj (by omega) h1; omega
    | succ fuel ih =>
      intro l vs w hs hl hcl htl hfs hb
      by_cases hall : ∀ j, j < m → l.getD j false = true
      · exact hend _ l vs w hs htl hfs hb hall
      obtain ⟨j0, hj0⟩ := Classical.not_forall.1 hall
      have hj0m : j0 < m := by
        rcases Nat.lt_or_ge j0 m with h | h
        · exact h
        · exact absurd (fun h' => absurd h' (by omega)) hj0
      have hj0f : l.getD j0 false = false := by
        cases h1 : l.getD j0 false with
        | false => rfl
        | true => exact absurd (fun _ => h1) hj0
      have hinv : HeadInv .any ops m l := by
        refine ⟨hs, fun j oj hj hlj e he hbd => ?_, fun t ht ht' => getD_in (by omega) (htl t ht ht')⟩
        refine hcl j e.on (Array.getElem?_eq_some_iff.1 hj).1 hlj ?_
        unfold rpred
        rw [hj, Option.map_some, Option.getD_some, List.any_eq_true]
        exact ⟨e, by simpa using he, by rw [hbd]; simp⟩
      have hwt := hwait l hinv ⟨j0, hj0m, getD_in (by omega) hj0f⟩
      rw [show fuel + 1 + (ops.size - m) = (fuel + (ops.size - m)) + 1 by omega]
      refine ⟨fun hr => ?_, fun i hi => ?_⟩
      · exfalso
        have hallb : ∀ i, i < m → l.getD i false = true := by
          intro i
          induction i using Nat.strongRecOn with
          | ind i ih =>
            intro hi
            by_cases hl : l.getD i false = true
            · exact hl
            · exfalso
              have ho : ops[i]? = some ops[i] := Array.getElem?_eq_getElem (by omega)
              have hok' := regionOk_at hok ho
              have hmem : i ∈ Region.ready .any ops l := mem_ready.2 ⟨by
                have : i < l.size := by omega
                simp [this] at hl ⊢
                exact hl, ops[i], ho, fun e he hbd => ih e.on (hok'.1 e he hbd) (by have := hok'.1 e he hbd; omega)⟩
              rw [hr] at hmem
              cases hmem
        exact absurd (hallb j0 hj0m) (by rw [hj0f]; decide)
      have him : i < m := by
        rcases Nat.lt_or_ge i m with h | h
        · exact h
        · exact absurd hi (hwt i h)
      obtain ⟨h0, o, ho, hpre⟩ := mem_ready.1 hi
      have hlt : i < ops.size := (Array.getElem?_eq_some_iff.1 ho).1
      have h1 : l.getD i false = false := by
        have : i < l.size := by omega
        simp [this] at h0 ⊢
        exact h0
      obtain ⟨hback, hsel, hdst, hlook⟩ := regionOk_at hok ho
      have hpred : ∀ j, rpred ops j i = true → l.getD j false = true ∧ j < i := by
        intro j hj
        unfold rpred at hj
        rw [ho, Option.map_some, Option.getD_some, List.any_eq_true] at hj
        obtain ⟨e, he, hej⟩ := hj
        have he : e ∈ o.after := by simpa using he
        simp at hej
        rw [← hej.2]
        exact ⟨hpre e he hej.1, hback e he hej.1⟩
      have hrd : rdst ops i = o.dst := by unfold rdst; rw [ho]; rfl
      -- what the operation looks at is the same in both frames
      have hsame : ∀ d ∈ o.looksAt ops, (puts ops (fun j => l.getD j false) vs ops.size a0).tmps[d]? = (puts ops (fun _ => true) vs i a0).tmps[d]? := by
        intro d hd
        by_cases hex : ∃ j, j < ops.size ∧ j ≠ i ∧ rdst ops j = some d
        · obtain ⟨j, hj, hne, hjd⟩ := hex
          have hoj : ops[j]? = some ops[j] := Array.getElem?_eq_getElem hj
          have hdj : ops[j].dst = some d := by unfold rdst at hjd; rw [hoj] at hjd; exact hjd
          have huniq : ∀ k, k < ops.size → k ≠ j → rdst ops k ≠ some d := fun k hk hkj => ((regionOk_at hok hoj).2.2.1 d hdj).2 k hk hkj
          rcases hlook d hd j hj hne hjd with hp | hp
          · obtain ⟨hlj, hji⟩ := hpred j hp
            rw [puts_new _ vs a0 d j hjd hlj ops.size hj huniq, puts_new _ vs a0 d j hjd rfl i hji fun k hk => huniq k (by omega)]
          · have hnl : l.getD j false = false := by
              cases hlj : l.getD j false with
              | false => rfl
              | true => exact absurd (hcl j i hj hlj hp) (by rw [h1]; decide)
            have hij : i < j := by
              unfold rpred at hp
              rw [hoj, Option.map_some, Option.getD_some, List.any_eq_true] at hp
              obtain ⟨e, he, hej⟩ := hp
              have he : e ∈ ops[j].after := by simpa using he
              simp at hej
              have := (regionOk_at hok hoj).1 e he hej.1
              omega
            rw [puts_old _ vs a0 d ops.size, puts_old _ vs a0 d i]
            · intro k hk _ hkd
              exact huniq k (by omega) (by omega) hkd
            · intro k hk hlk hkd
              by_cases hkj : k = j
              · subst hkj; rw [hnl] at hlk; cases hlk
              · exact huniq k hk hkj hkd
        · rw [puts_old _ vs a0 d ops.size, puts_old _ vs a0 d i]
          · intro k hk _ hkd; exact hex ⟨k, by omega, by omega, hkd⟩
          · intro k hk hlk hkd
            by_cases hki : k = i
            · subst hki; rw [h1] at hlk; cases hlk
            · exact hex ⟨k, hk, hki, hkd⟩
      have hst := hstep i o him ho vs w hb fun j hj => hfs j (by have := (hpred j hj).2; omega) (hpred j hj).1
      have hwant := wanted_congr hsame
      have hexec : execOp (puts ops (fun j => l.getD j false) vs ops.size a0).eval o = execOp (puts ops (fun _ => true) vs i a0).eval o := by
        refine execOp_congr o hsel fun x hx => ?_
        cases x with
        | tmp d =>
          have hd : d ∈ o.looksAt ops := List.mem_append_left _ (List.mem_filterMap.2 ⟨.tmp d, by simpa using hx, rfl⟩)
          have := hsame d hd
          show (puts ops (fun j => l.getD j false) vs ops.size a0).tmps.getD d undef = (puts ops (fun _ => true) vs i a0).tmps.getD d undef
          rw [Array.getD_eq_getD_getElem?, Array.getD_eq_getD_getElem?, this]
        | _ => rfl
      -- behind it
      have hnext : ∀ v w', F i (upd vs i v) w' → R w w' → wpAny P .any ops Q (fuel + (ops.size - m)) (l.setIfInBounds i true) ((puts ops (fun j => l.getD j false) vs ops.size a0).put o.dst v) w' := by
        intro v w' hv hb'
        have hset := puts_set (ops := ops) (fun j => l.getD j false) vs a0 i v h1 ops.size hlt fun j hj hne d hd => (hdst d (by rw [← hrd]; exact hd)).2 j hj hne
        rw [← hrd, ← hset]
        have hmarks : ∀ j, j < ops.size → (j == i || l.getD j false) = (l.setIfInBounds i true).getD j false := by
          intro j hj
          by_cases hij : i = j
          · subst hij; simp [hs, hlt]
          · rw [getD_set_ne false hij]
            have : (j == i) = false := by simp; omega
            simp [this]
        rw [puts_congr _ (fun j => (l.setIfInBounds i true).getD j false) _ (fun j => if j = i then v else vs j) a0 ops.size hmarks (fun _ _ _ => rfl)]
        refine ih (l.setIfInBounds i true) _ w' (by simp [hs]) (by have := left_set_in him (by omega) h1; omega) ?_ ?_ ?_ (HR.trans hb hb')
        · intro j k hj hlj hjk
          rw [← hmarks j hj] at hlj
          by_cases hji : j = i
          · subst hji; exact getD_set_true (hpred k hjk).1
          · have : (j == i) = false := by simpa using hji
            rw [this, Bool.false_or] at hlj
            exact getD_set_true (hcl j k hj hlj hjk)
        · intro t ht ht'
          rw [getD_set_ne false (by omega)]
          exact htl t ht ht'
        · intro j hj hlj
          rw [← hmarks j hj] at hlj
          by_cases hji : j = i
          · subst hji; exact hv
          · have : (j == i) = false := by simpa using hji
            rw [this, Bool.false_or] at hlj
            refine hF j _ w w' (hloc j vs _ w (fun k hk => ?_) (hfs j hj hlj)) hb'
            have hki : k ≠ i := by
              rcases hk with rfl | hk
              · exact hji
              · rintro rfl
                rw [hcl j k hj hlj hk] at h1
                cases h1
            show vs k = if k = i then v else vs k
            rw [if_neg hki]
      unfold wpOp
      rw [ho]
      show if Region.wanted o _ = true then _ else _
      rw [hwant]
      by_cases hw : Region.wanted o (yielded ops (puts ops (fun _ => true) vs i a0).tmps) = true
      · rw [if_pos hw] at hst ⊢
        exact .inl (wp_carry hexec (fun d hd => by rw [puts_size]; exact (hdst d hd).1) hst fun v w' h => hnext v w' h.1 h.2)
      · rw [if_neg hw] at hst ⊢
        exact hnext undef w hst (HR.refl _)
  have hinit := main m (Array.replicate ops.size false) (fun _ => undef) { w0 with drawn := w0.drawn + 1 } (by simp) (by unfold left; exact Nat.le_trans (List.length_filter_le _ _) (by simp))
    (fun i j hi h _ => by simp [hi] at h) (fun t _ _ => getD_replicate_false _ _) (fun i hi h => by simp [hi] at h) (HR.draw _)
  have hz : puts ops (fun j => (Array.replicate ops.size false).getD j false) (fun _ => undef) ops.size a0 = a0 := by
    have : ∀ n, n ≤ ops.size → puts ops (fun j => (Array.replicate ops.size false).getD j false) (fun _ => undef) n a0 = a0 := by
      intro n
      induction n with
      | zero => intro _; rfl
      | succ n ih =>
        intro hn
        have hlt : n < ops.size := by omega
        rw [puts, if_neg (by simp [hlt]), ih (by omega)]
    exact this _ (Nat.le_refl _)
  rw [hz, show m + (ops.size - m) = ops.size by omega] at hinit
  exact hinit

/-- **A region that draws**: each operation is shown once, in the frame that the text's order gives it, knowing of what it waits for; behind the region all facts hold. -/
theorem wpAny_region_factsR (HR : Later R) {a0 : Act} {w0 : World} (F : Nat → (Nat → Value) → World → Prop)
    (hok : regionOk ops a0.tmps.size = true)
    (hF : ∀ i vs w w', F i vs w → R w w' → F i vs w')
    (hloc : ∀ i vs vs' w, (∀ k, (k = i ∨ rpred ops k i = true) → vs k = vs' k) → F i vs w → F i vs' w)
    (hstep : ∀ i o, ops[i]? = some o → ∀ (vs : Nat → Value) (w : World), R w0 w → (∀ j, rpred ops j i = true → F j vs w) →
      if Region.wanted o (yielded ops (puts ops (fun _ => true) vs i a0).tmps) = true then
        o.wp P (puts ops (fun _ => true) vs i a0) w (fun a' w' => ∃ v, a' = (puts ops (fun _ => true) vs i a0).put o.dst v ∧ F i (upd vs i v) w' ∧ R w w') (fun _ _ _ => False)
      else F i (upd vs i undef) w)
    (hfin : ∀ (vs : Nat → Value) (w : World), R w0 w → (∀ i, i < ops.size → F i vs w) → Q .normal (puts ops (fun _ => true) vs ops.size a0) w) :
    wpAny P .any ops Q ops.size (Array.replicate ops.size false) a0 { w0 with drawn := w0.drawn + 1 } := by
  refine wpAny_region_coreR HR ops.size (Nat.le_refl _) F hok hF hloc (fun i o _ => hstep i o) (fun l _ _ t ht hr => ?_) fun l vs w hs hall _ hb hf => ?_
  · obtain ⟨_, o, ho, _⟩ := mem_ready.1 hr
    have := (Array.getElem?_eq_some_iff.1 ho).1
    omega
  · rw [Nat.sub_self]
    refine ⟨List.eq_nil_iff_forall_not_mem.2 fun i hi => ?_, hfin vs w hb hf⟩
    obtain ⟨h0, o, ho, _⟩ := mem_ready.1 hi
    have hlt := (Array.getElem?_eq_some_iff.1 ho).1
    have h1 := hall i hlt
    have : i < l.size := by omega
    simp [this] at h0 h1
    rw [h0] at h1
    cases h1
def StepAtR (R : World → World → Prop) (P : Program) (ops : Array Oper) (F : Nat → (Nat → Value) → World → Prop) (a0 : Act) (w0 : World) (i : Nat) (o : Oper) : Prop :=
  ∀ (ρ : Operand → Value) (vs : Nat → Value) (w : World), R w0 w → RCtxR ops F a0 i ρ vs w →
    match o.guard with
    | none => Gives P o ρ w fun v w' => F i (upd vs i v) w' ∧ R w w'
    | some (g, b) => ∀ d, rdst ops g = some d → (ρ (.tmp d) = .bool b → Gives P o ρ w fun v w' => F i (upd vs i v) w' ∧ R w w') ∧ (ρ (.tmp d) ≠ .bool b → F i (upd vs i undef) w)

def StepsFromR (R : World → World → Prop) (P : Program) (ops : Array Oper) (F : Nat → (Nat → Value) → World → Prop) (a0 : Act) (w0 : World) : Nat → List Oper → Prop
  | _, [] => True
  | i, o :: r => StepAtR R P ops F a0 w0 i o ∧ StepsFromR R P ops F a0 w0 (i + 1) r

theorem stepsFrom_atR {F : Nat → (Nat → Value) → World → Prop} {a0 : Act} {w0 : World} : ∀ (l : List Oper) (k : Nat), StepsFromR R P ops F a0 w0 k l → ∀ i o, l[i]? = some o → StepAtR R P ops F a0 w0 (k + i) o := by
  intro l
  induction l with
  | nil => intro k _ i o h; simp at h
  | cons x l ih =>
    intro k hs i o h
    cases i with
    | zero => simp at h; subst h; exact hs.1
    | succ i =>
      have := ih (k + 1) hs.2 i o (by simpa using h)
      rwa [Nat.add_assoc, Nat.add_comm 1] at this

/-- **A region that draws**, in the form in which it is used: a fact for each operation, a step for each. -/
theorem region_stepR {a0 : Act} {w0 : World} (F : Nat → (Nat → Value) → World → Prop)
    (hok : regionOk ops a0.tmps.size = true) (hgd : guardsOk ops = true)
    (i : Nat) (o : Oper) (ho : ops[i]? = some o) (hst : StepAtR R P ops F a0 w0 i o) (vs : Nat → Value) (w : World) (hb : R w0 w) (hp : ∀ j, rpred ops j i = true → F j vs w) :
      if Region.wanted o (yielded ops (puts ops (fun _ => true) vs i a0).tmps) = true then
        o.wp P (puts ops (fun _ => true) vs i a0) w (fun a' w' => ∃ v, a' = (puts ops (fun _ => true) vs i a0).put o.dst v ∧ F i (upd vs i v) w' ∧ R w w') (fun _ _ _ => False)
      else F i (upd vs i undef) w := by
  have hlt : i < ops.size := (Array.getElem?_eq_some_iff.1 ho).1
  obtain ⟨hback, hsel, hdst, hlook⟩ := regionOk_at hok ho
  have hpi : ∀ j, rpred ops j i = true → j < i := by
    intro j hj
    unfold rpred at hj
    rw [ho, Option.map_some, Option.getD_some, List.any_eq_true] at hj
    obtain ⟨e, he, hej⟩ := hj
    simp at hej
    rw [← hej.2]
    exact hback e (by simpa using he) hej.1
  have hw : ∀ d j, writer ops i d = some j → rdst ops j = some d ∧ rpred ops j i = true ∧ j < ops.size := by
    intro d j h
    have h1 := List.find?_some h
    have h2 := List.mem_of_find?_eq_some h
    simp at h1
    exact ⟨h1.1, h1.2, List.mem_range.1 h2⟩
  have hctx : RCtxR ops F a0 i (sees ops vs a0 i) vs w := by
    refine ⟨fun _ => rfl, fun _ => rfl, fun _ => rfl, fun d j h => ?_, hp, fun d v h hv => ?_⟩
    · show (match writer ops i d with | some j => vs j | none => a0.eval (.tmp d)) = vs j
      rw [h]
    · show (match writer ops i d with | some j => vs j | none => a0.eval (.tmp d)) = v
      rw [h]
      exact hv
  -- what it looks at is what it sees
  have hsee : ∀ d ∈ o.looksAt ops, (puts ops (fun _ => true) vs i a0).tmps.getD d undef = sees ops vs a0 i (.tmp d) := by
    intro d hd
    show _ = (match writer ops i d with | some j => vs j | none => a0.eval (.tmp d))
    cases hwr : writer ops i d with
    | some j =>
      obtain ⟨h1, h2, h3⟩ := hw d j hwr
      have hoj : ops[j]? = some ops[j] := Array.getElem?_eq_getElem h3
      have hdj : ops[j].dst = some d := by unfold rdst at h1; rw [hoj] at h1; exact h1
      have hu := (regionOk_at hok hoj).2.2.1 d hdj
      have hpn := puts_new (ops := ops) (fun _ => true) vs a0 d j h1 rfl i (hpi j h2) fun k hk => hu.2 k (by omega)
      rw [Array.getD_eq_getD_getElem?, hpn]
      simp [Act.put, hu.1]
    | none =>
      have hno : ∀ j, j < i → rdst ops j ≠ some d := by
        intro j hj hjd
        have h1 := hlook d hd j (by omega) (by omega) hjd
        rcases h1 with h1 | h1
        · have h2 := List.find?_eq_none.1 hwr j (List.mem_range.2 (by omega))
          simp [hjd, h1] at h2
        · have hoj : ops[j]? = some ops[j] := Array.getElem?_eq_getElem (by omega)
          unfold rpred at h1
          rw [hoj, Option.map_some, Option.getD_some, List.any_eq_true] at h1
          obtain ⟨e, he, hej⟩ := h1
          simp at hej
          have := (regionOk_at hok hoj).1 e (by simpa using he) hej.1
          omega
      show _ = a0.tmps.getD d undef
      rw [Array.getD_eq_getD_getElem?, Array.getD_eq_getD_getElem?, puts_old (ops := ops) (fun _ => true) vs a0 d i fun j hj _ => hno j hj]
  have hexec : execOp (puts ops (fun _ => true) vs i a0).eval o = execOp (sees ops vs a0 i) o := by
    refine execOp_congr o hsel fun x hx => ?_
    cases x with
    | tmp d => exact hsee d (List.mem_append_left _ (List.mem_filterMap.2 ⟨.tmp d, by simpa using hx, rfl⟩))
    | _ => rfl
  have h1 := hst (sees ops vs a0 i) vs w hb hctx
  cases hg : o.guard with
  | none =>
    rw [hg] at h1
    have hwa : Region.wanted o (yielded ops (puts ops (fun _ => true) vs i a0).tmps) = true := by unfold Region.wanted; rw [hg]
    rw [if_pos hwa]
    exact wp_of_gives hexec h1
  | some p =>
    obtain ⟨g, b⟩ := p
    rw [hg] at h1
    have hgo : (rdst ops g).isSome = true := by
      unfold guardsOk at hgd
      rw [List.all_eq_true] at hgd
      have := hgd i (List.mem_range.2 hlt)
      rw [ho, Option.map_some, Option.getD_some, hg] at this
      exact this
    obtain ⟨d, hd⟩ := Option.isSome_iff_exists.1 hgo
    obtain ⟨hyes, hno⟩ := h1 d hd
    have hdl : d ∈ o.looksAt ops := List.mem_append_right _ (by rw [hg]; show d ∈ ((ops[g]?).bind (·.dst)).toList; have : (ops[g]?).bind (·.dst) = some d := hd; rw [this]; simp)
    have hv := hsee d hdl
    by_cases hw : Region.wanted o (yielded ops (puts ops (fun _ => true) vs i a0).tmps) = true
    · rw [if_pos hw]
      refine wp_of_gives hexec (hyes ?_)
      rw [← hv]
      unfold Region.wanted at hw
      rw [hg] at hw
      have hd' : (ops[g]?).bind (·.dst) = some d := hd
      simp only [yielded, hd', Option.bind_some] at hw
      rw [Array.getD_eq_getD_getElem?]
      cases hx : (puts ops (fun _ => true) vs i a0).tmps[d]? with
      | none => rw [hx] at hw; simp at hw
      | some v =>
        rw [hx] at hw
        cases v <;> simp at hw
        subst hw
        rfl
    · rw [if_neg hw]
      refine hno fun h => hw ?_
      rw [← hv, Array.getD_eq_getD_getElem?] at h
      unfold Region.wanted
      rw [hg]
      have hd' : (ops[g]?).bind (·.dst) = some d := hd
      simp only [yielded, hd', Option.bind_some]
      cases hx : (puts ops (fun _ => true) vs i a0).tmps[d]? with
      | none => rw [hx] at h; cases h
      | some v =>
        rw [hx] at h
        have h : v = .bool b := h
        subst h
        simp
theorem stepsFrom_allR {F : Nat → (Nat → Value) → World → Prop} {a0 : Act} {w0 : World} (h : StepsFromR R P ops F a0 w0 0 ops.toList) (i : Nat) (o : Oper) (ho : ops[i]? = some o) : StepAtR R P ops F a0 w0 i o := by
  have := stepsFrom_atR ops.toList 0 h i o (by simpa using ho)
  simpa using this
theorem wpAny_region_stepsR (HR : Later R) {a0 : Act} {w0 : World} (F : Nat → (Nat → Value) → World → Prop)
    (hok : regionOk ops a0.tmps.size = true) (hgd : guardsOk ops = true)
    (hF : ∀ i vs w w', F i vs w → R w w' → F i vs w')
    (hloc : ∀ i vs vs' w, (∀ k, (k = i ∨ rpred ops k i = true) → vs k = vs' k) → F i vs w → F i vs' w)
    (hsteps : StepsFromR R P ops F a0 w0 0 ops.toList)
    (hfin : ∀ (vs : Nat → Value) (w : World), R w0 w → (∀ i, i < ops.size → F i vs w) → Q .normal (puts ops (fun _ => true) vs ops.size a0) w) :
    wpAny P .any ops Q ops.size (Array.replicate ops.size false) a0 { w0 with drawn := w0.drawn + 1 } :=
  wpAny_region_factsR HR F hok hF hloc (fun i o ho => region_stepR F hok hgd i o ho (stepsFrom_allR hsteps i o ho)) hfin
end
/-- What is known of a value, and stays known; 'deps': the operations whose values it speaks of besides. -/
structure FactR (R : World → World → Prop) where
  holds : (Nat → Value) → Value → World → Prop
  deps : List Nat
  stays : ∀ vs v w w', holds vs v w → R w w' → holds vs v w'
  local_ : ∀ vs vs' v w, (∀ k ∈ deps, vs k = vs' k) → holds vs v w → holds vs' v w
def FactR.any {R : World → World → Prop} : FactR R := ⟨fun _ _ _ => True, [], fun _ _ _ _ _ _ => trivial, fun _ _ _ _ _ _ => trivial⟩
def FactR.is {R : World → World → Prop} (u : Value) : FactR R := ⟨fun _ v _ => v = u, [], fun _ _ _ _ h _ => h, fun _ _ _ _ _ h => h⟩
/-- Of the value alone, and the world. -/
def FactR.of {R : World → World → Prop} (H : Value → World → Prop) (h : ∀ v w w', H v w → R w w' → H v w') : FactR R := ⟨fun _ v w => H v w, [], fun _ v w w' a b => h v w w' a b, fun _ _ _ _ _ h => h⟩
def factsR {R : World → World → Prop} (L : List (FactR R)) (i : Nat) (vs : Nat → Value) (w : World) : Prop := (L.getD i FactR.any).holds vs (vs i) w
/-- Each fact speaks of what its operation waits for alone. -/
def depsOk {R : World → World → Prop} (ops : Array Oper) (L : List (FactR R)) : Bool := (List.range L.length).all fun i => (L.getD i FactR.any).deps.all fun k => rpred ops k i
theorem factsR_local {R : World → World → Prop} {ops : Array Oper} {L : List (FactR R)} (h : depsOk ops L = true) (i : Nat) (vs vs' : Nat → Value) (w : World) (hk : ∀ k, (k = i ∨ rpred ops k i = true) → vs k = vs' k) (hf : factsR L i vs w) : factsR L i vs' w := by
  unfold factsR at *
  rw [← hk i (.inl rfl)]
  refine (L.getD i FactR.any).local_ vs vs' _ w (fun k hd => hk k (.inr ?_)) hf
  by_cases hi : i < L.length
  · unfold depsOk at h
    exact List.all_eq_true.1 (List.all_eq_true.1 h i (List.mem_range.2 hi)) k hd
  · rw [List.getD_eq_getElem?_getD, List.getElem?_eq_none (by omega)] at hd
    cases hd
theorem RCtxR.holds {R : World → World → Prop} {ops : Array Oper} {L : List (FactR R)} {a0 : Act} {i : Nat} {ρ : Operand → Value} {vs : Nat → Value} {w : World} (H : RCtxR ops (factsR L) a0 i ρ vs w) (d j : Nat) (h : writer ops i d = some j) : (L.getD j FactR.any).holds vs (ρ (.tmp d)) w := by
  rw [H.new d j h]
  exact H.fact j (writer_pred h)
theorem wpAny_region_listR {R : World → World → Prop} (HR : Later R) {P : Program} {ops : Array Oper} {Q : Exit → Act → World → Prop} {a0 : Act} {w0 : World} (L : List (FactR R)) (ds : List (Option Tmp))
    (hok : regionOk ops a0.tmps.size = true) (hgd : guardsOk ops = true) (hdp : depsOk ops L = true) (hds : ops.toList.map (·.dst) = ds) (hsteps : StepsFromR R P ops (factsR L) a0 w0 0 ops.toList)
    (hfin : ∀ (vs : Nat → Value) (w : World), R w0 w → (∀ i, i < ds.length → factsR L i vs w) → Q .normal (putAll vs ds 0 a0) w) :
    wpAny P .any ops Q ops.size (Array.replicate ops.size false) a0 { w0 with drawn := w0.drawn + 1 } :=
  wpAny_region_stepsR HR (factsR L) hok hgd (fun i vs w w' h hb => (L.getD i FactR.any).stays vs _ w w' h hb) (factsR_local hdp) hsteps (fun vs w hb h => by
    subst hds
    rw [puts_all]
    exact hfin vs w hb fun i hi => h i (by simpa using hi))
/-- The use: the relation, a fact for each operation. -/
theorem wp_region_listR {R : World → World → Prop} (HR : Later R) {P : Program} {ops : Array Oper} {Q : Exit → Act → World → Prop} {id : Nat} {a0 : Act} {w0 : World} (L : List (FactR R)) (ds : List (Option Tmp)) (hm : P.follows .mixedOrders = true)
    (hok : regionOk ops a0.tmps.size = true) (hgd : guardsOk ops = true) (hdp : depsOk ops L = true) (hds : ops.toList.map (·.dst) = ds) (hsteps : StepsFromR R P ops (factsR L) a0 w0 0 ops.toList)
    (hfin : ∀ (vs : Nat → Value) (w : World), R w0 w → (∀ i, i < ds.length → factsR L i vs w) → Q .normal (putAll vs ds 0 a0) w) :
    (Code.region id ops true).wp P Q a0 w0 := wp_region_any hm (wpAny_region_listR HR L ds hok hgd hdp hds hsteps hfin)
end Go.Proofs.YtnbiopihcbnkpaaGreatDoor

/- Values of one cell each in a row of the call's own. Over any program. -/





namespace Go.Proofs.YtnbiopihcbnkpaaGreatDoor

open Go.RowKit

def OwnV {α : Type} (f : α → Value) (e : TypeId) (w : World) (l : List α) (v : Value) (w' : World) : Prop := ∃ n, w'.ownsRow w.heap.size e 1 v n (l.map f)
section

variable {α : Type} {f : α → Value} {e : TypeId} {w w0 w1 w2 : World} {l : List α} {v : Value}
theorem OwnV.isV (h : OwnV f e w l v w1) : IsV f l v w1 := h.elim fun _ h => isV_own h
theorem OwnV.nil (f : α → Value) (e : TypeId) (w w' : World) : OwnV f e w [] (.slice none 0 0) w' := ⟨0, World.ownsRow_nil _ _ _ _⟩
theorem OwnV.below (h : OwnV f e w l v w1) (hb : Below w1.heap.size w1 w2) : OwnV f e w l v w2 := h.elim fun _ h => ⟨_, own_below h hb⟩
theorem OwnV.base (hb : w0.heap.size ≤ w.heap.size) (h : OwnV f e w l v w1) : OwnV f e w0 l v w1 := h.elim fun _ h => ⟨_, own_base hb h⟩
end

end Go.Proofs.YtnbiopihcbnkpaaGreatDoor

/- Slices of values of several cells each (structs): f tells a value's cells, m how many. Over any program. -/



namespace Go.Proofs.YtnbiopihcbnkpaaGreatDoor

open Go.RowKit

theorem flat_at {α : Type} {f : α → List Value} {m : Nat} (hf : ∀ x, (f x).length = m) : ∀ (l : List α) (k : Nat) (hk : k < l.length) (i : Nat), i < m → (l.flatMap f)[k * m + i]? = (f l[k])[i]?
  | [], _, hk, _, _ => absurd hk (Nat.not_lt_zero _)
  | x :: l, 0, _, i, hi => by
    rw [List.flatMap_cons, Nat.zero_mul, Nat.zero_add, List.getElem?_append_left (by rw [hf]; exact hi)]
    rfl
  | x :: l, k + 1, hk, i, hi => by
    rw [List.flatMap_cons, Nat.succ_mul, List.getElem?_append_right (by rw [hf]; omega), hf, show k * m + m + i - m = k * m + i by omega]
    exact flat_at hf l k (by simpa using hk) i hi
theorem flat_take {α : Type} {f : α → List Value} {m : Nat} (hf : ∀ x, (f x).length = m) : ∀ (l : List α) (k : Nat), (l.take k).flatMap f = (l.flatMap f).take (k * m)
  | [], k => by simp
  | x :: l, 0 => by simp
  | x :: l, k + 1 => by
    rw [List.take_succ_cons, List.flatMap_cons, List.flatMap_cons, flat_take hf l k, Nat.succ_mul, List.take_append, hf, show k * m + m - m = k * m by omega, List.take_of_length_le (l := f x) (by rw [hf]; omega)]
theorem flat_len {α : Type} {f : α → List Value} {m : Nat} (hf : ∀ x, (f x).length = m) : ∀ l : List α, (l.flatMap f).length = l.length * m
  | [] => by simp
  | x :: l => by rw [List.flatMap_cons, List.length_append, hf, flat_len hf l, List.length_cons, Nat.succ_mul, Nat.add_comm]
/-- The slice v holds l, each of whose values takes up the cells f. -/
def IsR {α : Type} (f : α → List Value) (l : List α) (v : Value) (w : World) : Prop := ∃ A c, v = .slice A l.length c ∧ (A = none → l.length = 0) ∧ l.length ≤ c ∧ c ≤ maxLen ∧ Lies w A (l.flatMap f)
section

variable {α : Type} {f : α → List Value} {l : List α} {v : Value} {w w' : World} {A : Option Addr} {n c m : Nat}
theorem IsR.below (h : IsR f l v w) (hb : Below w.heap.size w w') : IsR f l v w' := by
  obtain ⟨A, c, h1, h2, h3, h4, h5⟩ := h
  exact ⟨A, c, h1, h2, h3, h4, h5.below hb⟩
theorem IsR.parts (h : IsR f l (.slice A n c) w) : l.length = n ∧ (A = none → n = 0) ∧ n ≤ c ∧ c ≤ maxLen ∧ Lies w A (l.flatMap f) := by
  obtain ⟨A', c', h1, h2, h3, h4, h5⟩ := h
  injection h1 with e1 e2 e3
  subst e1 e2 e3
  exact ⟨rfl, h2, h3, h4, h5⟩
theorem IsR.shape (h : IsR f l v w) : ∃ A n c, v = .slice A n c := by
  obtain ⟨A', c', h1, _⟩ := h
  exact ⟨_, _, _, h1⟩
theorem IsR.at (h : IsR f l (.slice A n c) w) (hf : ∀ x, (f x).length = m) (hm : 0 < m) {k : Nat} (hk : k < l.length) : ∃ ad, A = some ad ∧ ad.block < w.heap.size ∧ ∀ i, i < m → w.cell? (ad.add (k * m + i)) = (f l[k])[i]? := by
  obtain ⟨_, _, _, _, h5⟩ := h.parts
  have hne : l.flatMap f ≠ [] := by
    intro h0
    have h1 := flat_at hf l k hk 0 hm
    rw [h0, List.getElem?_eq_getElem (l := f l[k]) (by rw [hf]; exact hm)] at h1
    cases h1
  rcases h5 with h5 | ⟨ad, hA, hlt, hc⟩
  · exact absurd h5 hne
  · refine ⟨ad, hA, hlt, fun i hi => ?_⟩
    have h1 := flat_at hf l k hk i hi
    rw [List.getElem?_eq_getElem (l := f l[k]) (by rw [hf]; exact hi)] at h1 ⊢
    exact hc _ _ h1
/-- The first k of it, by x[:k]. -/
theorem IsR.take (h : IsR f l (.slice A n c) w) (hf : ∀ x, (f x).length = m) {k : Nat} (hk : k ≤ n) : IsR f (l.take k) (.slice A k c) w := by
  obtain ⟨h1, h2, h3, h4, h5⟩ := h.parts
  have hl : (l.take k).length = k := by rw [List.length_take]; omega
  exact ⟨A, c, by rw [hl], fun h => by have := h2 h; omega, by rw [hl]; omega, h4, by rw [flat_take hf]; exact h5.take _⟩
end

section

variable {P : Program} {o : Oper} {ρ : Operand → Value} {w : World} {R : Value → World → Prop}
/-- x[k] of a slice whose values take up m cells each: the place. -/
theorem gives_index_wide {t e : TypeId} {m : Nat} (ht : P.underlying t = some (.slice e)) (hs : ∀ W, (sizeOf e).run P W = .ok m W) {x y : Operand} {ad : Addr} {n c k : Nat} (ho : o.op = .indexAddr t x y) (hx : ρ x = .slice (some ad) n c) (hy : ρ y = .int .i64 (k : Int)) (hk : k < n)
    (hR : R (.pointer (some (ad.add (k * m)))) w) : Gives P o ρ w R := by
  refine gives_of (v := .pointer (some (ad.add (k * m)))) (w' := w) ?_ hR
  have h0 : (0 : Int) ≤ (k : Int) := by omega
  have h1 : (k : Int) < (n : Int) := by omega
  simp [execOp, ho, hx, hy, go_sem, ht, hs, h0, h1]
/-- A load of a whole value of several cells, from wherever they lie. -/
theorem gives_load_wide {t : TypeId} {x : Operand} {ad : Addr} {cs : List Value} {d : TypeDesc} (ho : o.op = .load t x) (hx : ρ x = .pointer (some ad)) (hu : P.underlying t = some d) (hd : (match (generalizing := false) d with | .struct _ | .array _ _ => true | _ => false) = true)
    (hs : ∀ W, (sizeOf t).run P W = .ok cs.length W) (hc : ∀ j v, cs[j]? = some v → w.cell? (ad.add j) = some v) (hR : R (.agg cs.toArray) w) : Gives P o ρ w R := by
  refine gives_of (v := .agg cs.toArray) (w' := w) ?_ hR
  have ha : (isAgg t).run P w = .ok true w := by
    unfold isAgg
    rw [Sem.run_bind, run_underlying hu]
    cases d <;> first | rfl | cases hd
  have hl : (loadVar t ad).run P w = .ok (.agg cs.toArray) w := by
    simp [loadVar, ha, hs, run_loadCells_list w ad cs hc]
  simp [execOp, ho, hx, Instr.loadAt, Instr.sureAddr, hl]
/-- p.f: the place of a field, where p is known. -/
theorem gives_field {t : TypeId} {x : Operand} {ad ad' : Addr} {f : Nat} (ho : o.op = .fieldAddr t x f) (hx : ρ x = .pointer (some ad)) (hrun : ∀ W, (Instr.fieldAt t (.pointer (some ad)) f).run P W = .ok (.pointer (some ad')) W)
    (hR : R (.pointer (some ad')) w) : Gives P o ρ w R := by
  refine gives_of (v := .pointer (some ad')) (w' := w) ?_ hR
  simp [execOp, ho, hx, hrun]
end

end Go.Proofs.YtnbiopihcbnkpaaGreatDoor

/- Rows of the call's own whose values take up m cells each: append. Over any program. -/





namespace Go.Proofs.YtnbiopihcbnkpaaGreatDoor

open Go.RowKit

/-- The facts on an element's type that appends ask: m cells, so many bytes. -/
structure ElemW (P : Program) (t e : TypeId) (bytes m : Nat) (z : Value) : Prop where
  under : P.underlying t = some (.slice e)
  cells : z.cells.size = m
  pos : 0 < m
  info : ∃ (i : TypeInfo), P.info? e = some i ∧ i.zero = some z ∧ i.size = m ∧ i.bytes = bytes
section

variable {P : Program} (w : World)
end
section

variable {α : Type} {f : α → List Value} {l : List α} {v : Value} {w w' : World} {m n : Nat}
end
end Go.Proofs.YtnbiopihcbnkpaaGreatDoor
