/- Texts that the claims of this seat share, part 2: Take RTake Int TPlain Tab WLeaf WMost ERef Str DRef TRef Wide OwnV WRow RegR Arr Num WMake TOwn TWay MulS. -/
import Derived.Deep.DeepMust
import Derived.Lib.MinMax
import Derived.Deep.RegionWith
import Derived.Deep.RegionLaw
import Derived.BigGuardPart
import Derived.ProofKit
import Derived.LaidMore
import Derived.OpenShut
import Derived.Laws.Rows
import Derived.MakeChecks
import Derived.LaidSub
import Derived.Laws.ResultCell
import Derived.Great.BuildSlice
import Derived.Deep.WholeRow
import Derived.Shelf.Bits.Mul64
import Derived.Laws.StructEq
import Derived.Test.YtchgpgnipmmflaaDoorProg
import Derived.Test.YtchgpgnipmmflaaDoorG1
/- The contract of varint.Take. -/







namespace Go.Proofs.YtchgpgnipmmflaaDoor

open Go.RowKit

/-- What a call answers that takes a number off bytes. -/
def RetT (k : IntKind) (w : World) (o : Option (Int × List UInt8)) (e : Ending) (w' : World) : Prop :=
  match o with
  | none => e = .returned (.tuple #[.int k 0, .slice none 0 0, .int .i64 2]) ∧ Below w.heap.size w w'
  | some p => ∃ A c, e = .returned (.tuple #[.int k p.1, .slice A p.2.length c, .int .i64 0]) ∧ (A = none → p.2.length = 0) ∧ p.2.length ≤ c ∧ c ≤ maxLen ∧ OwnB w p.2 (.slice A p.2.length c) w' ∧ Below w.heap.size w w'

/-- What the loop holds: k bytes with their highest bit are read. -/
def TakeRel (l : List UInt8) (x i : Value) : Prop :=
  ∃ (k : Nat) (y : Int), i = .int .i64 (k : Int) ∧ k ≤ 10 ∧ k ≤ l.length ∧ x = .int .u64 y ∧ 0 ≤ y ∧ y < 18446744073709551616 ∧ (k ≤ 9 → y = (vsum (l.take k) : Nat)) ∧ ∀ j (h : j < l.length), j < k → 128 ≤ l[j].toNat

theorem or_shift_bd (y : Int) (d k : Nat) (h0 : 0 ≤ y) (h1 : y < 18446744073709551616) :
    0 ≤ bits .or .u64 y (IntKind.u64.wrap ((d : Int) * 2 ^ (7 * k))) ∧ bits .or .u64 y (IntKind.u64.wrap ((d : Int) * 2 ^ (7 * k))) < 18446744073709551616 := by
  rw [u64_or y _ h0 h1 (by rw [IntKind.wrap_u64]; omega) (by rw [IntKind.wrap_u64]; omega)]
  have : y.toNat ||| (IntKind.u64.wrap ((d : Int) * 2 ^ (7 * k))).toNat < 2 ^ 64 := Nat.or_lt_two_pow (by omega) (by rw [IntKind.wrap_u64]; omega)
  omega
theorem or_shift_eq (a d k : Nat) (ha : a < 128 ^ k) (hk : k ≤ 9) (hd : 128 ^ k * d < 18446744073709551616) :
    bits .or .u64 (a : Int) (IntKind.u64.wrap ((d : Int) * 2 ^ (7 * k))) = ((a + 128 ^ k * d : Nat) : Int) := by
  have h1 : (128 : Nat) ^ k = 2 ^ (7 * k) := by rw [Nat.pow_mul]
  have h2 : (128 : Nat) ^ k ≤ 128 ^ 9 := Nat.pow_le_pow_right (by omega) hk
  have h3 : (128 : Nat) ^ 9 = 9223372036854775808 := by decide
  rw [h1] at ha hd ⊢
  have h4 : ((d : Int) * 2 ^ (7 * k)) = ((d * 2 ^ (7 * k) : Nat) : Int) := by push_cast; rfl
  rw [h4, IntKind.wrap_u64, Int.emod_eq_of_lt (by omega) (by rw [Nat.mul_comm]; omega), u64_join (7 * k) a d ha (by rw [Nat.mul_comm]; exact hd) (by omega), Nat.mul_comm d]

theorem mayEnd_is (i c : Nat) (v : Bool) (w : World) (h1 : i ≤ 1000) (h2 : c < 256) (hv : vend i c = v) :
    Calls Tryd.prog 73 #[.int .i64 (i : Int), .int .u8 (c : Int)] w fun e w' => e = .returned (.bool v) ∧ w = w' := by
  have h := mayEnd_any (i : Int) (c : Int) w (by omega) (by omega) (by omega) (by omega)
  rw [Int.toNat_natCast, Int.toNat_natCast, hv] at h
  exact h

set_option maxHeartbeats 400000 in
set_option maxRecDepth 100000 in
theorem take_any (A : Option Addr) (n c : Nat) (l : List UInt8) (w : World) (hA : A = none → n = 0) (hn : l.length = n) (hnc : n ≤ c) (hnb : n ≤ 1000000) (hl : Lies w A (l.map bv)) :
    Calls Tryd.prog 60 #[.slice A n c] w (RetT .u64 w ((vtake l).map fun p => ((p.1 : Int), p.2))) := by
  go_enter Tryd.func60, Tryd.ntmps60
  go_wp2
  go_loop [5, 11] (TakeRel l) (fun _ i => 10 - (intOf i).toNat)
  case atStart => exact ⟨0, 0, rfl, by omega, by omega, rfl, by omega, by omega, by simp [vsum], by omega⟩
  case round =>
    obtain ⟨k, y, rfl, hk, hkl, rfl, hy0, hy1, hy, hhi⟩ := hrel
    have HY := Lib.hid hy
    have HH := Lib.hid hhi
    clear hy hhi
    by_cases hlt : k < min n 10
    · have hm : (l.map bv).length = n := by simpa using hn
      obtain ⟨ad, rfl, _, hc⟩ := hl.cell (k := k) (by omega)
      obtain ⟨b, hb⟩ : ∃ b : Nat, b = (l[k]'(by omega)).toNat := ⟨_, rfl⟩
      have hcb : w.cell? (ad.add k) = some (.int .u8 (b : Int)) := by rw [hc, List.getElem_map, hb]; rfl
      have hb256 : b < 256 := by rw [hb]; exact UInt8.toNat_lt _
      have HB := Lib.hid hb
      clear hb hc
      have ha1 := u8_and127 (b : Int) (by omega) (by omega)
      have hlt' : (k : Int) < min (n : Int) 10 := by omega
      have hbd := or_shift_bd y (b % 128) k hy0 hy1
      have hZ : bits .or .u64 y (IntKind.u64.wrap ((b : Int) % 128 * 2 ^ (7 * k))) = bits .or .u64 y (IntKind.u64.wrap (((b % 128 : Nat) : Int) * 2 ^ (7 * k))) := by push_cast; rfl
      obtain ⟨Z, hzz⟩ : ∃ Z, Z = bits .or .u64 y (IntKind.u64.wrap (((b % 128 : Nat) : Int) * 2 ^ (7 * k))) := ⟨_, rfl⟩
      rw [← hzz] at hZ hbd
      have HZ := Lib.hid hzz
      clear hzz
      obtain ⟨hz0, hz1⟩ := hbd
      have hb9 : k ≤ 9 := by omega
      by_cases h128 : b < 128
      · have ha2 : bits .and .u8 (b : Int) 128 = 0 := by rw [u8_and128 (b : Int) (by omega) (by omega)]; omega
        have hend : vtake l = if vend k b = true then some (vsum (l.take k) + 128 ^ k * b, l.drop (k + 1)) else none := by
          have := vtake_end hb9 (by omega) HH.out (by rw [← HB.out]; exact h128)
          rw [← HB.out] at this
          exact this
        cases hv : vend k b with
        | false =>
          have HE : Hid (vtake l = none) := by show vtake l = none; rw [hend, hv]; simp
          have HV := Lib.hid hv
          clear hend hv
          go_wp2_with (go_at_call 73; refine (mayEnd_is _ _ false _ (by omega) (by omega) HV.out).mono ?_; rintro e w' ⟨rfl, rfl⟩)
          go_ret3
          rw [HE.out]
          exact ⟨rfl, Below.refl _ _⟩
        | true =>
          have HE : Hid (vtake l = some (vsum (l.take k) + 128 ^ k * b, l.drop (k + 1))) := by show vtake l = _; rw [hend, hv]; simp
          have HV := Lib.hid hv
          clear hend hv
          have hdl : ((l.drop (k + 1)).map bv).length = n - (k + 1) := by rw [List.length_map, List.length_drop, hn]
          have hlk : Lies w (some ⟨ad.block, ad.off + (k + 1), none⟩) ((l.drop (k + 1)).map bv) := by rw [List.map_drop]; exact hl.drop_some k
          have hfin : ∀ (v : Value) (w1 : World), w1.ownsRow w.heap.size 5 1 v (n - (k + 1)) ((l.drop (k + 1)).map bv) → Below w.heap.size w w1 →
              RetT .u64 w ((vtake l).map fun p => ((p.1 : Int), p.2)) (.returned (.tuple #[.int .u64 Z, v, .int .i64 0])) w1 := by
            intro v w1 hown hb
            obtain ⟨B, c', hB, h2, h3, h4, _, h6⟩ := ret_own (w0 := w) hown hb
            injection hB with hB
            subst hB
            have hZv : Z = ((vsum (l.take k) + 128 ^ k * b : Nat) : Int) := by
              have h7 := HY.out hb9
              have h8 : b % 128 = b := by omega
              have hvs := vsum_lt (l.take k)
              rw [List.length_take, Nat.min_eq_left (by omega)] at hvs
              have hto := (vtake_some HE.out).2
              rw [HZ.out, h7, h8, or_shift_eq _ _ _ hvs hb9 (by omega)]
            rw [HE.out]
            exact ⟨B, c', by rw [hZv], h2, h3, h4, ⟨_, hown⟩, h6⟩
          have HF := Lib.hid hfin
          clear hfin
          by_cases hck : c = k + 1
          · obtain rfl : n = k + 1 := by omega
            have hd0 : (l.drop (k + 1)).map bv = [] := List.eq_nil_of_length_eq_zero (by omega)
            have HD := Lib.hid hd0
            clear hd0 hdl
            go_wp2_with (first | (go_at_call 73; refine (mayEnd_is _ _ true _ (by omega) (by omega) HV.out).mono ?_; rintro e w' ⟨rfl, rfl⟩) | (at_builtin; refine wpList_join elemB rfl _ _ rfl w.heap.size _ _ _ _ _ _ [] w rfl rfl (by simp) (by simp) Lies.nil (by simp) (World.ownsRow_nil _ _ _ _) (Below.refl _ _) (Nat.le_refl _) (by omega) (by omega) ?_))
            intro v1 w1 hown1 hb1 _ _
            go_wp2
            go_ret3
            exact HF.out v1 w1 (by rw [HD.out]; simpa using hown1) hb1
          · go_wp2_with (first | (go_at_call 73; refine (mayEnd_is _ _ true _ (by omega) (by omega) HV.out).mono ?_; rintro e w' ⟨rfl, rfl⟩) | (at_builtin; refine wpList_join elemB rfl _ _ rfl w.heap.size _ _ _ _ _ _ ((l.drop (k + 1)).map bv) w rfl rfl (by simp) hdl hlk (bv_one _) (World.ownsRow_nil _ _ _ _) (Below.refl _ _) (Nat.le_refl _) (by omega) (by omega) ?_))
            intro v1 w1 hown1 hb1 _ _
            go_wp2
            go_ret3
            exact HF.out v1 w1 (by simpa using hown1) hb1
      · have ha2 : bits .and .u8 (b : Int) 128 = 128 := by rw [u8_and128 (b : Int) (by omega) (by omega)]; omega
        go_wp2
        go_round
        case rel =>
          refine ⟨k + 1, Z, by go_num, by omega, by omega, rfl, hz0, hz1, ?_, ?_⟩
          · intro h9
            have h7 := HY.out hb9
            have hvs := vsum_lt (l.take k)
            rw [List.length_take, Nat.min_eq_left (by omega)] at hvs
            have h2 : (128 : Nat) ^ k ≤ 128 ^ 8 := Nat.pow_le_pow_right (by omega) (by omega)
            have h3 : (128 : Nat) ^ 8 = 72057594037927936 := by decide
            have h4 : 128 ^ k * (b % 128) ≤ 72057594037927936 * 127 := Nat.mul_le_mul (by omega) (by omega)
            rw [HZ.out, h7, or_shift_eq _ _ _ hvs hb9 (by omega), List.take_succ_eq_append_getElem (by omega), vsum_append, List.length_take, Nat.min_eq_left (by omega)]
            simp only [vsum, ← HB.out, Nat.mul_zero, Nat.add_zero]
          · intro j hj hjk
            by_cases hjk' : j = k
            · subst hjk'; rw [← HB.out]; omega
            · exact HH.out j hj (by omega)
        case measure => simp [intOf]; omega
    · have hge : ¬ (k : Int) < min (n : Int) 10 := by omega
      have hnone : vtake l = none := by
        by_cases h10 : n < 10
        · exact vtake_all (by omega) fun j hj => HH.out j hj (by omega)
        · exact vtake_long (by omega) fun j hj hj10 => HH.out j hj (by omega)
      have HE := Lib.hid hnone
      clear hnone
      go_wp2
      go_ret3
      rw [HE.out]
      exact ⟨rfl, Below.refl _ _⟩
end Go.Proofs.YtchgpgnipmmflaaDoor

/- The contract of the reference's Take. -/











namespace Go.Proofs.YtchgpgnipmmflaaDoor

open Go.RowKit

theorem ent11 (args : Array Value) (w : World) : (callFunc 56 args).run Tryd.prog w = .ok (.enter 56 args) w := by kernel_rfl

def RTakeRel (l : List UInt8) (i : Value) : Prop :=
  ∃ k : Nat, i = .int .i64 (k : Int) ∧ k ≤ 9 ∧ k ≤ l.length ∧ ∀ j (h : j < l.length), j < k → 128 ≤ l[j].toNat

def RTakeRel2 (l : List UInt8) (n : Nat) (x i : Value) : Prop :=
  ∃ m : Nat, i = .int .i64 ((m : Int) - 1) ∧ m ≤ n + 1 ∧ x = .int .u64 ((vsum ((l.take (n + 1)).drop m) % 18446744073709551616 : Nat) : Int)

theorem vsum_cut (l : List UInt8) (n m : Nat) (h : m < n + 1) (hl : n < l.length) :
    (128 * (vsum ((l.take (n + 1)).drop (m + 1)) % 18446744073709551616) % 18446744073709551616 + (l[m]'(by omega)).toNat % 128) % 18446744073709551616 = vsum ((l.take (n + 1)).drop m) % 18446744073709551616 := by
  have hm : m < (l.take (n + 1)).length := by rw [List.length_take]; omega
  rw [List.drop_eq_getElem_cons hm, vsum, List.getElem_take]
  omega

set_option maxHeartbeats 1000000 in
set_option maxRecDepth 100000 in
theorem rtake_any (A : Option Addr) (n c : Nat) (l : List UInt8) (w : World) (hA : A = none → n = 0) (hn : l.length = n) (hnc : n ≤ c) (hnb : n ≤ 1000000) (hl : Lies w A (l.map bv)) :
    Calls Tryd.prog 64 #[.slice A n c] w (RetT .u64 w ((vtake l).map fun p => ((p.1 : Int), p.2))) := by
  go_enter Tryd.func64, Tryd.ntmps64
  go_wp2
  go_loop [5] (RTakeRel l) (fun i => 10 - (intOf i).toNat)
  case atStart => exact ⟨0, rfl, by omega, by omega, by omega⟩
  case round =>
    obtain ⟨k, rfl, hk, hkl, hhi⟩ := hrel
    have HH := Lib.hid hhi
    clear hhi
    by_cases hgo : ∃ h : k < l.length, k < 9 ∧ 128 ≤ l[k].toNat
    · obtain ⟨hk1, hk2, hk3⟩ := hgo
      obtain ⟨ad, rfl, _, hc⟩ := hl.cell (k := k) (by rw [List.length_map]; omega)
      obtain ⟨b, hb⟩ : ∃ b : Nat, b = (l[k]'(by omega)).toNat := ⟨_, rfl⟩
      have hcb : w.cell? (ad.add k) = some (.int .u8 (b : Int)) := by rw [hc, List.getElem_map, hb]; rfl
      rw [← hb] at hk3
      have HB := Lib.hid hb
      clear hb hc
      rw [hn] at hk1
      have g1 : (k : Int) < (n : Int) := by omega
      have g2 : (k : Int) < 9 := by omega
      have g3 : (128 : Int) ≤ (b : Int) := by omega
      go_wp2
      go_round
      case rel =>
        refine ⟨k + 1, by go_num, by omega, by omega, ?_⟩
        intro j hj hjk
        by_cases hjk' : j = k
        · subst hjk'; rw [← HB.out]; omega
        · exact HH.out j hj (by omega)
      case measure => simp [intOf]; omega
    · have hst : vstops l k := by
        refine ⟨hk, hkl, HH.out, ?_⟩
        by_cases h9 : k = 9
        · exact .inl h9
        · refine .inr fun h => ?_
          by_cases h128 : 128 ≤ l[k].toNat
          · exact absurd ⟨h, by omega, h128⟩ hgo
          · omega
      have HS := Lib.hid hst
      clear hst hgo
      by_cases hkn : k < n
      · obtain ⟨ad, rfl, _, hc⟩ := hl.cell (k := k) (by rw [List.length_map]; omega)
        obtain ⟨b, hb⟩ : ∃ b : Nat, b = (l[k]'(by omega)).toNat := ⟨_, rfl⟩
        have hcb : w.cell? (ad.add k) = some (.int .u8 (b : Int)) := by rw [hc, List.getElem_map, hb]; rfl
        have hb256 : b < 256 := by rw [hb]; exact UInt8.toNat_lt _
        have HB := Lib.hid hb
        clear hc hb
        have g1 : (k : Int) < (n : Int) := by omega
        by_cases h9 : k = 9
        · have g2 : ¬ (k : Int) < 9 := by omega
          have H9 := Lib.hid h9
          clear h9
          go_wp2
          go_loop [6, 7] (RTakeRel2 l k) (fun _ i => (intOf i + 1).toNat)
          case atStart => exact ⟨k + 1, by go_num, by omega, by simp [vsum]⟩
          case round =>
            obtain ⟨m, rfl, hm, rfl⟩ := hrel
            obtain ⟨X, hX⟩ : ∃ X : Nat, X = vsum (List.drop m (List.take (k + 1) l)) % 18446744073709551616 := ⟨_, rfl⟩
            rw [← hX]
            have hXb : (X : Int) < 18446744073709551616 := by omega
            by_cases hm0 : m = 0
            · subst hm0
              have HX := Lib.hid hX
              clear hX
              have hlt : Lies w (some ad) ((l.take (k + 1)).map bv) := by rw [List.map_take]; exact hl.take _
              have htl : (l.take (k + 1)).length = k + 1 := by rw [List.length_take]; omega
              go_wp2
              refine wp_region_list [.is (.int .u64 (X : Int)), .bytes (vput X), .is (.string ⟨(vput X).toArray⟩), .is (.slice (some ad) n c), .is (.int .i64 (k : Int)), .is (.int .i64 ((k : Int) + 1)), .is (.slice (some ad) (k + 1) c),
                .is (.string ⟨(l.take (k + 1)).toArray⟩), .is (.bool !(vput X == l.take (k + 1)))] [some 43, some 44, some 45, some 46, some 47, some 48, some 49, some 50, some 51] (by kernel_rfl) (by kernel_rfl) (by kernel_rfl) rfl ⟨?_, ?_, ?_, ?_, ?_, ?_, ?_, ?_, ?_, trivial⟩ ?_
              · intro ρ w1 hb1 H
                exact gives_move rfl (H.old 6 _ (by kernel_rfl) rfl) ⟨rfl, Below.refl _ _⟩
              · intro ρ w1 hb1 H
                have e0 : ρ (.tmp 43) = .int .u64 (X : Int) := H.new 43 0 (by kernel_rfl)
                refine gives_call rfl ent11 (H.func _) (args := #[.slice none 0 0, .int .u64 (X : Int)]) (by simp [H.const, e0]) ?_
                refine (rput_any none 0 0 (X : Int) [] _ (by simp) rfl (by omega) Lies.nil (by omega) hXb).mono fun e w2 h => ?_
                exact h.isB
              · intro ρ w1 hb1 H
                obtain ⟨A1, c1, e1, h1, h2, h3, h4⟩ : IsB (vput X) (ρ (.tmp 44)) w1 := H.new 44 1 (by kernel_rfl)
                exact gives_convert rfl e1 (run_text w1 _ _ _ Tryd.underlying32 Tryd.underlying5 Tryd.underlying9 A1 _ c1 _ rfl h4) ⟨rfl, Below.refl _ _⟩
              · intro ρ w1 hb1 H
                exact gives_move rfl (H.old 0 _ (by kernel_rfl) rfl) ⟨rfl, Below.refl _ _⟩
              · intro ρ w1 hb1 H
                exact gives_move rfl (H.old 5 _ (by kernel_rfl) rfl) ⟨rfl, Below.refl _ _⟩
              · intro ρ w1 hb1 H
                exact gives_add rfl (H.new 47 4 (by kernel_rfl)) (H.const _) (by omega) (by omega) ⟨rfl, Below.refl _ _⟩
              · intro ρ w1 hb1 H
                exact gives_upto elemB rfl (H.new 46 3 (by kernel_rfl)) (h := k + 1) (H.new 48 5 (by kernel_rfl)) (by omega) ⟨rfl, Below.refl _ _⟩
              · intro ρ w1 hb1 H
                exact gives_convert rfl (H.new 49 6 (by kernel_rfl)) (run_text w1 _ _ _ Tryd.underlying32 Tryd.underlying5 Tryd.underlying9 _ _ _ _ htl (hlt.below hb1)) ⟨rfl, Below.refl _ _⟩
              · intro ρ w1 hb1 H
                exact gives_textne rfl (H.new 45 2 (by kernel_rfl)) (H.new 50 7 (by kernel_rfl)) ⟨rfl, Below.refl _ _⟩
              · intro vs w1 hb1 hfs
                have f8 : vs 8 = .bool !(vput X == l.take (k + 1)) := hfs 8 (by decide)
                clear hfs
                generalize vs 0 = v0 at *; generalize vs 1 = v1 at *; generalize vs 2 = v2 at *; generalize vs 3 = v3 at *; generalize vs 4 = v4 at *; generalize vs 5 = v5 at *; generalize vs 6 = v6 at *; generalize vs 7 = v7 at *
                by_cases he : vput X = l.take (k + 1)
                · have hb8 : (vput X == l.take (k + 1)) = true := by simpa using he
                  rw [hb8] at f8
                  have HE : Hid (vtake l = some (X, l.drop (k + 1))) := by
                    show vtake l = _
                    have h2 := HX.out
                    rw [List.drop_zero] at h2
                    have h1 := vtake_same (l := l) (n := k) (by rw [← h2]; exact he)
                    rw [h1, ← h2]
                  simp only [putAll, f8, Bool.not_true, Act.put, List.setIfInBounds_toArray, List.set_cons_succ, List.set_cons_zero]
                  clear he hb8 f8
                  have hz1 := hb1.size
                  have hbb : Below w.heap.size w (w1.alloc (.cells #[] 5)) := hb1.alloc hb1.size _
                  have hown0 : (w1.alloc (.cells #[] 5)).ownsRow w.heap.size 5 1 (.slice (some ⟨w1.heap.size, 0, none⟩) 0 0) 0 [] := World.ownsRow_made w1 #[] 0 hb1.size (by unfold maxLen; omega) (by simp)
                  have hdl : ((l.drop (k + 1)).map bv).length = n - (k + 1) := by rw [List.length_map, List.length_drop, hn]
                  have hlk : Lies (w1.alloc (.cells #[] 5)) (some ⟨ad.block, ad.off + (k + 1), none⟩) ((l.drop (k + 1)).map bv) := by rw [List.map_drop]; exact (hl.drop_some k).below hbb
                  have hzz : w.heap.size ≤ (w1.alloc (.cells #[] 5)).heap.size := by simp; omega
                  have HF : Hid (∀ (v : Value) (w2 : World), w2.ownsRow w.heap.size 5 1 v (n - (k + 1)) ((l.drop (k + 1)).map bv) → Below w.heap.size w w2 →
                      RetT .u64 w ((vtake l).map fun p => ((p.1 : Int), p.2)) (.returned (.tuple #[.int .u64 (X : Int), v, .int .i64 0])) w2) := by
                    show ∀ (v : Value) (w2 : World), _
                    intro v w2 hown hb
                    obtain ⟨B, c', hB, h2, h3, h4, _, h6⟩ := ret_own (w0 := w) hown hb
                    injection hB with hB
                    subst hB
                    rw [HE.out]
                    exact ⟨B, c', rfl, h2, h3, h4, ⟨_, hown⟩, h6⟩
                  by_cases hck : c = k + 1
                  · obtain rfl : n = k + 1 := by omega
                    have hd0 : (l.drop (k + 1)).map bv = [] := List.eq_nil_of_length_eq_zero (by omega)
                    have HD := Lib.hid hd0
                    clear hd0 hdl
                    go_wp2_with (at_builtin; refine wpList_join elemB rfl _ _ rfl w.heap.size _ _ _ _ _ _ [] w rfl rfl (by simp) (by simp) Lies.nil (by simp) hown0 hbb hzz (by omega) (by omega) ?_)
                    intro vv w2 hown2 hb2 _ _
                    go_wp2
                    go_ret3
                    exact HF.out vv w2 (by rw [HD.out]; simpa using hown2) hb2
                  · go_wp2_with (at_builtin; refine wpList_join elemB rfl _ _ rfl w.heap.size _ _ _ _ _ _ ((l.drop (k + 1)).map bv) w rfl rfl (by simp) hdl hlk (bv_one _) hown0 hbb hzz (by omega) (by omega) ?_)
                    intro vv w2 hown2 hb2 _ _
                    go_wp2
                    go_ret3
                    exact HF.out vv w2 (by simpa using hown2) hb2
                · have hb8 : (vput X == l.take (k + 1)) = false := by simpa using he
                  rw [hb8] at f8
                  have HE : Hid (vtake l = none) := by
                    show vtake l = none
                    refine vtake_other HS.out ?_
                    have h2 := HX.out
                    rw [List.drop_zero] at h2
                    rw [← h2]
                    exact he
                  simp only [putAll, f8, Bool.not_false, Act.put, List.setIfInBounds_toArray, List.set_cons_succ, List.set_cons_zero]
                  clear he hb8 f8
                  go_wp2
                  go_ret3
                  rw [HE.out]
                  exact ⟨rfl, hb1⟩
            · obtain ⟨m, rfl⟩ : ∃ j, m = j + 1 := ⟨m - 1, by omega⟩
              have hcut := vsum_cut l k m (by omega) (by omega)
              rw [← hX] at hcut
              obtain ⟨ad', had, _, hc'⟩ := hl.cell (k := m) (by rw [List.length_map]; omega)
              injection had with had
              subst had
              obtain ⟨b', hb'⟩ : ∃ b' : Nat, b' = (l[m]'(by omega)).toNat := ⟨_, rfl⟩
              have hcb' : w.cell? (ad.add m) = some (.int .u8 (b' : Int)) := by rw [hc', List.getElem_map, hb']; rfl
              have hb256' : b' < 256 := by rw [hb']; exact UInt8.toNat_lt _
              rw [← hb'] at hcut
              have HC := Lib.hid hcut
              clear hcut hX hc' hb' hcb
              have hmn : (m : Int) < (n : Int) := by omega
              have hmi : ((m + 1 : Nat) : Int) - 1 = (m : Int) := by omega
              rw [hmi]
              go_wp2
              go_round
              case rel =>
                refine ⟨m, rfl, by omega, ?_⟩
                have h3 := HC.out
                rw [← h3]
                congr 1
              case measure => simp [intOf]
        · have g3 : (b : Int) < 128 := by
            rcases HS.out.2.2.2 with h | h
            · omega
            · have := h (by omega); rw [← HB.out] at this; omega
          have g2 : (k : Int) < 9 := by omega
          go_wp2
          go_loop [6, 7] (RTakeRel2 l k) (fun _ i => (intOf i + 1).toNat)
          case atStart => exact ⟨k + 1, by go_num, by omega, by simp [vsum]⟩
          case round =>
            obtain ⟨m, rfl, hm, rfl⟩ := hrel
            obtain ⟨X, hX⟩ : ∃ X : Nat, X = vsum (List.drop m (List.take (k + 1) l)) % 18446744073709551616 := ⟨_, rfl⟩
            rw [← hX]
            have hXb : (X : Int) < 18446744073709551616 := by omega
            by_cases hm0 : m = 0
            · subst hm0
              have HX := Lib.hid hX
              clear hX
              have hlt : Lies w (some ad) ((l.take (k + 1)).map bv) := by rw [List.map_take]; exact hl.take _
              have htl : (l.take (k + 1)).length = k + 1 := by rw [List.length_take]; omega
              go_wp2
              refine wp_region_list [.is (.int .u64 (X : Int)), .bytes (vput X), .is (.string ⟨(vput X).toArray⟩), .is (.slice (some ad) n c), .is (.int .i64 (k : Int)), .is (.int .i64 ((k : Int) + 1)), .is (.slice (some ad) (k + 1) c),
                .is (.string ⟨(l.take (k + 1)).toArray⟩), .is (.bool !(vput X == l.take (k + 1)))] [some 43, some 44, some 45, some 46, some 47, some 48, some 49, some 50, some 51] (by kernel_rfl) (by kernel_rfl) (by kernel_rfl) rfl ⟨?_, ?_, ?_, ?_, ?_, ?_, ?_, ?_, ?_, trivial⟩ ?_
              · intro ρ w1 hb1 H
                exact gives_move rfl (H.old 6 _ (by kernel_rfl) rfl) ⟨rfl, Below.refl _ _⟩
              · intro ρ w1 hb1 H
                have e0 : ρ (.tmp 43) = .int .u64 (X : Int) := H.new 43 0 (by kernel_rfl)
                refine gives_call rfl ent11 (H.func _) (args := #[.slice none 0 0, .int .u64 (X : Int)]) (by simp [H.const, e0]) ?_
                refine (rput_any none 0 0 (X : Int) [] _ (by simp) rfl (by omega) Lies.nil (by omega) hXb).mono fun e w2 h => ?_
                exact h.isB
              · intro ρ w1 hb1 H
                obtain ⟨A1, c1, e1, h1, h2, h3, h4⟩ : IsB (vput X) (ρ (.tmp 44)) w1 := H.new 44 1 (by kernel_rfl)
                exact gives_convert rfl e1 (run_text w1 _ _ _ Tryd.underlying32 Tryd.underlying5 Tryd.underlying9 A1 _ c1 _ rfl h4) ⟨rfl, Below.refl _ _⟩
              · intro ρ w1 hb1 H
                exact gives_move rfl (H.old 0 _ (by kernel_rfl) rfl) ⟨rfl, Below.refl _ _⟩
              · intro ρ w1 hb1 H
                exact gives_move rfl (H.old 5 _ (by kernel_rfl) rfl) ⟨rfl, Below.refl _ _⟩
              · intro ρ w1 hb1 H
                exact gives_add rfl (H.new 47 4 (by kernel_rfl)) (H.const _) (by omega) (by omega) ⟨rfl, Below.refl _ _⟩
              · intro ρ w1 hb1 H
                exact gives_upto elemB rfl (H.new 46 3 (by kernel_rfl)) (h := k + 1) (H.new 48 5 (by kernel_rfl)) (by omega) ⟨rfl, Below.refl _ _⟩
              · intro ρ w1 hb1 H
                exact gives_convert rfl (H.new 49 6 (by kernel_rfl)) (run_text w1 _ _ _ Tryd.underlying32 Tryd.underlying5 Tryd.underlying9 _ _ _ _ htl (hlt.below hb1)) ⟨rfl, Below.refl _ _⟩
              · intro ρ w1 hb1 H
                exact gives_textne rfl (H.new 45 2 (by kernel_rfl)) (H.new 50 7 (by kernel_rfl)) ⟨rfl, Below.refl _ _⟩
              · intro vs w1 hb1 hfs
                have f8 : vs 8 = .bool !(vput X == l.take (k + 1)) := hfs 8 (by decide)
                clear hfs
                generalize vs 0 = v0 at *; generalize vs 1 = v1 at *; generalize vs 2 = v2 at *; generalize vs 3 = v3 at *; generalize vs 4 = v4 at *; generalize vs 5 = v5 at *; generalize vs 6 = v6 at *; generalize vs 7 = v7 at *
                by_cases he : vput X = l.take (k + 1)
                · have hb8 : (vput X == l.take (k + 1)) = true := by simpa using he
                  rw [hb8] at f8
                  have HE : Hid (vtake l = some (X, l.drop (k + 1))) := by
                    show vtake l = _
                    have h2 := HX.out
                    rw [List.drop_zero] at h2
                    have h1 := vtake_same (l := l) (n := k) (by rw [← h2]; exact he)
                    rw [h1, ← h2]
                  simp only [putAll, f8, Bool.not_true, Act.put, List.setIfInBounds_toArray, List.set_cons_succ, List.set_cons_zero]
                  clear he hb8 f8
                  have hz1 := hb1.size
                  have hbb : Below w.heap.size w (w1.alloc (.cells #[] 5)) := hb1.alloc hb1.size _
                  have hown0 : (w1.alloc (.cells #[] 5)).ownsRow w.heap.size 5 1 (.slice (some ⟨w1.heap.size, 0, none⟩) 0 0) 0 [] := World.ownsRow_made w1 #[] 0 hb1.size (by unfold maxLen; omega) (by simp)
                  have hdl : ((l.drop (k + 1)).map bv).length = n - (k + 1) := by rw [List.length_map, List.length_drop, hn]
                  have hlk : Lies (w1.alloc (.cells #[] 5)) (some ⟨ad.block, ad.off + (k + 1), none⟩) ((l.drop (k + 1)).map bv) := by rw [List.map_drop]; exact (hl.drop_some k).below hbb
                  have hzz : w.heap.size ≤ (w1.alloc (.cells #[] 5)).heap.size := by simp; omega
                  have HF : Hid (∀ (v : Value) (w2 : World), w2.ownsRow w.heap.size 5 1 v (n - (k + 1)) ((l.drop (k + 1)).map bv) → Below w.heap.size w w2 →
                      RetT .u64 w ((vtake l).map fun p => ((p.1 : Int), p.2)) (.returned (.tuple #[.int .u64 (X : Int), v, .int .i64 0])) w2) := by
                    show ∀ (v : Value) (w2 : World), _
                    intro v w2 hown hb
                    obtain ⟨B, c', hB, h2, h3, h4, _, h6⟩ := ret_own (w0 := w) hown hb
                    injection hB with hB
                    subst hB
                    rw [HE.out]
                    exact ⟨B, c', rfl, h2, h3, h4, ⟨_, hown⟩, h6⟩
                  by_cases hck : c = k + 1
                  · obtain rfl : n = k + 1 := by omega
                    have hd0 : (l.drop (k + 1)).map bv = [] := List.eq_nil_of_length_eq_zero (by omega)
                    have HD := Lib.hid hd0
                    clear hd0 hdl
                    go_wp2_with (at_builtin; refine wpList_join elemB rfl _ _ rfl w.heap.size _ _ _ _ _ _ [] w rfl rfl (by simp) (by simp) Lies.nil (by simp) hown0 hbb hzz (by omega) (by omega) ?_)
                    intro vv w2 hown2 hb2 _ _
                    go_wp2
                    go_ret3
                    exact HF.out vv w2 (by rw [HD.out]; simpa using hown2) hb2
                  · go_wp2_with (at_builtin; refine wpList_join elemB rfl _ _ rfl w.heap.size _ _ _ _ _ _ ((l.drop (k + 1)).map bv) w rfl rfl (by simp) hdl hlk (bv_one _) hown0 hbb hzz (by omega) (by omega) ?_)
                    intro vv w2 hown2 hb2 _ _
                    go_wp2
                    go_ret3
                    exact HF.out vv w2 (by simpa using hown2) hb2
                · have hb8 : (vput X == l.take (k + 1)) = false := by simpa using he
                  rw [hb8] at f8
                  have HE : Hid (vtake l = none) := by
                    show vtake l = none
                    refine vtake_other HS.out ?_
                    have h2 := HX.out
                    rw [List.drop_zero] at h2
                    rw [← h2]
                    exact he
                  simp only [putAll, f8, Bool.not_false, Act.put, List.setIfInBounds_toArray, List.set_cons_succ, List.set_cons_zero]
                  clear he hb8 f8
                  go_wp2
                  go_ret3
                  rw [HE.out]
                  exact ⟨rfl, hb1⟩
            · obtain ⟨m, rfl⟩ : ∃ j, m = j + 1 := ⟨m - 1, by omega⟩
              have hcut := vsum_cut l k m (by omega) (by omega)
              rw [← hX] at hcut
              obtain ⟨ad', had, _, hc'⟩ := hl.cell (k := m) (by rw [List.length_map]; omega)
              injection had with had
              subst had
              obtain ⟨b', hb'⟩ : ∃ b' : Nat, b' = (l[m]'(by omega)).toNat := ⟨_, rfl⟩
              have hcb' : w.cell? (ad.add m) = some (.int .u8 (b' : Int)) := by rw [hc', List.getElem_map, hb']; rfl
              have hb256' : b' < 256 := by rw [hb']; exact UInt8.toNat_lt _
              rw [← hb'] at hcut
              have HC := Lib.hid hcut
              clear hcut hX hc' hb' hcb
              have hmn : (m : Int) < (n : Int) := by omega
              have hmi : ((m + 1 : Nat) : Int) - 1 = (m : Int) := by omega
              rw [hmi]
              go_wp2
              go_round
              case rel =>
                refine ⟨m, rfl, by omega, ?_⟩
                have h3 := HC.out
                rw [← h3]
                congr 1
              case measure => simp [intOf]
      · have g1 : ¬ (k : Int) < (n : Int) := by omega
        have HE := Lib.hid (vtake_short HS.out (by omega))
        go_wp2
        go_ret3
        rw [HE.out]
        exact ⟨rfl, Below.refl _ _⟩
end Go.Proofs.YtchgpgnipmmflaaDoor

/- Contracts of the numbers with a sign, or without, and of what stands at the head of all statements. -/





namespace Go.Proofs.YtchgpgnipmmflaaDoor

open Go.RowKit

/-- The number that is laid down. -/
def vint (x : Int) (s : Bool) : Nat := if s = true then (vzig x).toNat else (x % 18446744073709551616).toNat
/-- What is taken as a number with a sign, or without. -/
def vtint (l : List UInt8) (s : Bool) : Option (Int × List UInt8) :=
  match vtake l, s with
  | none, _ => none
  | some p, true => some (vzag (p.1 : Int), p.2)
  | some p, false => if 9223372036854775808 ≤ (p.1 : Int) then none else some ((p.1 : Int), p.2)
theorem vtint_none {l : List UInt8} (s : Bool) (h : vtake l = none) : vtint l s = none := by unfold vtint; rw [h]
theorem vtint_true {l r : List UInt8} {u : Nat} (h : vtake l = some (u, r)) : vtint l true = some (vzag (u : Int), r) := by unfold vtint; rw [h]
theorem vtint_small {l r : List UInt8} {u : Nat} (h : vtake l = some (u, r)) (hu : (u : Int) < 9223372036854775808) : vtint l false = some ((u : Int), r) := by
  unfold vtint; rw [h]; exact if_neg (by show ¬ (9223372036854775808 : Int) ≤ (u : Int); omega)
theorem vtint_big {l r : List UInt8} {u : Nat} (h : vtake l = some (u, r)) (hu : 9223372036854775808 ≤ (u : Int)) : vtint l false = none := by
  unfold vtint; rw [h]; exact if_pos hu

set_option maxHeartbeats 400000 in
theorem putInt_own (A : Option Addr) (n c : Nat) (x : Int) (s : Bool) (l : List UInt8) (w : World) (hA : A = none → n = 0) (hn : l.length = n) (hnb : n ≤ 1000000) (hl : Lies w A (l.map bv)) (h0 : -9223372036854775808 ≤ x) (h1 : x ≤ 9223372036854775807) :
    Calls Tryd.prog 26 #[.slice A n c, .int .i64 x, .bool s] w (RetOwn w (l ++ vput (vint x s))) := by
  cases s with
  | true =>
    obtain ⟨hz0, hz1⟩ := vzig_bd h0 h1
    go_enter Tryd.func26, Tryd.ntmps26
    go_wp2_with (first | (go_at_call 51; refine (zig_any _ _ h0 h1).mono ?_; rintro e w' ⟨rfl, rfl⟩) | (go_at_call 50; refine (put_own _ _ _ _ l _ hA hn hnb hl hz0 hz1).mono ?_; intro e w' h; obtain ⟨v, rfl, hv, hb⟩ := h; have HV := Lib.hid hv; clear hv))
    go_ret
    exact ⟨_, rfl, HV.out, hb⟩
  | false =>
    have hw : IntKind.u64.wrap x = x % 18446744073709551616 := IntKind.wrap_u64 x
    have hu0 : 0 ≤ x % 18446744073709551616 := by omega
    have hu1 : x % 18446744073709551616 < 18446744073709551616 := by omega
    by_cases hx : 0 ≤ x
    · have he : x % 18446744073709551616 = x := by omega
      have HE := Lib.hid he
      clear he hu0 hu1 hw
      go_enter Tryd.func26, Tryd.ntmps26
      go_wp2_with (go_at_call 50; refine (put_own _ _ _ _ l _ hA hn hnb hl hx (by omega)).mono ?_; intro e w' h; obtain ⟨v, rfl, hv, hb⟩ := h; have HV := Lib.hid hv; clear hv)
      go_ret
      unfold vint
      rw [if_neg (by decide), HE.out]
      exact ⟨_, rfl, HV.out, hb⟩
    · have hx' : x < 0 := by omega
      go_enter Tryd.func26, Tryd.ntmps26
      go_wp2_with (go_at_call 50; refine (put_own _ _ _ _ l _ hA hn hnb hl hu0 hu1).mono ?_; intro e w' h; obtain ⟨v, rfl, hv, hb⟩ := h; have HV := Lib.hid hv; clear hv)
      go_ret
      exact ⟨_, rfl, HV.out, hb⟩

set_option maxHeartbeats 400000 in
theorem rputInt_own (A : Option Addr) (n c : Nat) (x : Int) (s : Bool) (l : List UInt8) (w : World) (hA : A = none → n = 0) (hn : l.length = n) (hnb : n ≤ 1000000) (hl : Lies w A (l.map bv)) (h0 : -9223372036854775808 ≤ x) (h1 : x ≤ 9223372036854775807) :
    Calls Tryd.prog 32 #[.slice A n c, .int .i64 x, .bool s] w (RetOwn w (l ++ vput (vint x s))) := by
  cases s with
  | true =>
    obtain ⟨hz0, hz1⟩ := vzig_bd h0 h1
    go_enter Tryd.func32, Tryd.ntmps32
    go_wp2_with (first | (go_at_call 57; refine (rzig_any _ _ h0 h1).mono ?_; rintro e w' ⟨rfl, rfl⟩) | (go_at_call 56; refine (rput_own _ _ _ _ l _ hA hn hnb hl hz0 hz1).mono ?_; intro e w' h; obtain ⟨v, rfl, hv, hb⟩ := h; have HV := Lib.hid hv; clear hv))
    go_ret
    exact ⟨_, rfl, HV.out, hb⟩
  | false =>
    have hw : IntKind.u64.wrap x = x % 18446744073709551616 := IntKind.wrap_u64 x
    have hu0 : 0 ≤ x % 18446744073709551616 := by omega
    have hu1 : x % 18446744073709551616 < 18446744073709551616 := by omega
    by_cases hx : 0 ≤ x
    · have he : x % 18446744073709551616 = x := by omega
      have HE := Lib.hid he
      clear he hu0 hu1 hw
      go_enter Tryd.func32, Tryd.ntmps32
      go_wp2_with (go_at_call 56; refine (rput_own _ _ _ _ l _ hA hn hnb hl hx (by omega)).mono ?_; intro e w' h; obtain ⟨v, rfl, hv, hb⟩ := h; have HV := Lib.hid hv; clear hv)
      go_ret
      unfold vint
      rw [if_neg (by decide), HE.out]
      exact ⟨_, rfl, HV.out, hb⟩
    · have hx' : x < 0 := by omega
      go_enter Tryd.func32, Tryd.ntmps32
      go_wp2_with (go_at_call 56; refine (rput_own _ _ _ _ l _ hA hn hnb hl hu0 hu1).mono ?_; intro e w' h; obtain ⟨v, rfl, hv, hb⟩ := h; have HV := Lib.hid hv; clear hv)
      go_ret
      exact ⟨_, rfl, HV.out, hb⟩

theorem putInt_any (A : Option Addr) (n c : Nat) (x : Int) (s : Bool) (l : List UInt8) (w : World) (hA : A = none → n = 0) (hn : l.length = n) (hnb : n ≤ 1000000) (hl : Lies w A (l.map bv)) (h0 : -9223372036854775808 ≤ x) (h1 : x ≤ 9223372036854775807) :
    Calls Tryd.prog 26 #[.slice A n c, .int .i64 x, .bool s] w (RetB w (l ++ vput (vint x s))) := (putInt_own A n c x s l w hA hn hnb hl h0 h1).mono fun _ _ h => h.retB
theorem rputInt_any (A : Option Addr) (n c : Nat) (x : Int) (s : Bool) (l : List UInt8) (w : World) (hA : A = none → n = 0) (hn : l.length = n) (hnb : n ≤ 1000000) (hl : Lies w A (l.map bv)) (h0 : -9223372036854775808 ≤ x) (h1 : x ≤ 9223372036854775807) :
    Calls Tryd.prog 32 #[.slice A n c, .int .i64 x, .bool s] w (RetB w (l ++ vput (vint x s))) := (rputInt_own A n c x s l w hA hn hnb hl h0 h1).mono fun _ _ h => h.retB

set_option maxHeartbeats 400000 in
set_option maxRecDepth 100000 in
theorem takeInt_any (A : Option Addr) (n c : Nat) (s : Bool) (l : List UInt8) (w : World) (hA : A = none → n = 0) (hn : l.length = n) (hnc : n ≤ c) (hnb : n ≤ 1000000) (hl : Lies w A (l.map bv)) :
    Calls Tryd.prog 36 #[.slice A n c, .bool s] w (RetT .i64 w (vtint l s)) := by
  cases ht : vtake l with
  | none =>
    have hc := take_any A n c l w hA hn hnc hnb hl
    rw [ht] at hc
    have HC := Lib.hid hc
    have HT := Lib.hid ht
    clear hc ht
    go_enter Tryd.func36, Tryd.ntmps36
    go_wp2_with (go_at_call 60; refine HC.out.mono ?_; rintro e w' ⟨rfl, hb⟩)
    go_ret3
    rw [vtint_none _ HT.out]
    exact ⟨rfl, hb⟩
  | some p =>
    obtain ⟨u, r⟩ := p
    have hu := (vtake_some ht).2
    have hu0 : (0 : Int) ≤ (u : Int) := by omega
    have hu1 : (u : Int) < 18446744073709551616 := by omega
    have hc := take_any A n c l w hA hn hnc hnb hl
    rw [ht] at hc
    have ht' : Option.map (fun p : Nat × List UInt8 => ((p.1 : Int), p.2)) (some (u, r)) = some ((u : Int), r) := rfl
    rw [ht'] at hc
    obtain ⟨U, hU⟩ : ∃ U : Int, U = (u : Int) := ⟨_, rfl⟩
    rw [← hU] at hc hu0 hu1
    have HU := Lib.hid hU
    have HC := Lib.hid hc
    have HT := Lib.hid ht
    clear hc ht hu ht' hU
    cases s with
    | true =>
      go_enter Tryd.func36, Tryd.ntmps36
      go_wp2_with (first | (go_at_call 60; refine HC.out.mono ?_; rintro e w' ⟨A1, c1, rfl, h2⟩; have H2 := Lib.hid h2; clear h2) | (go_at_call 61; refine (zag_any _ _ hu0 hu1).mono ?_; rintro e w2 ⟨rfl, rfl⟩))
      go_ret3
      rw [vtint_true HT.out, ← HU.out]
      exact ⟨A1, c1, rfl, H2.out⟩
    | false =>
      by_cases hbig : U < 9223372036854775808
      · have hb2 : ¬ (9223372036854775807 : Int) < U := by omega
        have hb3 : ¬ (9223372036854775808 : Int) ≤ U := by omega
        go_enter Tryd.func36, Tryd.ntmps36
        go_wp2_with (go_at_call 60; refine HC.out.mono ?_; rintro e w' ⟨A1, c1, rfl, h2⟩; have H2 := Lib.hid h2; clear h2)
        go_ret3
        rw [vtint_small HT.out (by have := HU.out; omega), ← HU.out]
        exact ⟨A1, c1, rfl, H2.out⟩
      · have hb2 : (9223372036854775807 : Int) < U := by omega
        have hb3 : (9223372036854775808 : Int) ≤ U := by omega
        go_enter Tryd.func36, Tryd.ntmps36
        go_wp2_with (go_at_call 60; refine HC.out.mono ?_; rintro e w' ⟨A1, c1, rfl, h2⟩; have H2 := Lib.hid h2; clear h2)
        go_ret3
        rw [vtint_big HT.out (by have := HU.out; omega)]
        exact ⟨rfl, H2.out.2.2.2.2⟩

set_option maxHeartbeats 400000 in
set_option maxRecDepth 100000 in
theorem rtakeInt_any (A : Option Addr) (n c : Nat) (s : Bool) (l : List UInt8) (w : World) (hA : A = none → n = 0) (hn : l.length = n) (hnc : n ≤ c) (hnb : n ≤ 1000000) (hl : Lies w A (l.map bv)) :
    Calls Tryd.prog 40 #[.slice A n c, .bool s] w (RetT .i64 w (vtint l s)) := by
  cases ht : vtake l with
  | none =>
    have hc := rtake_any A n c l w hA hn hnc hnb hl
    rw [ht] at hc
    have HC := Lib.hid hc
    have HT := Lib.hid ht
    clear hc ht
    go_enter Tryd.func40, Tryd.ntmps40
    go_wp2_with (go_at_call 64; refine HC.out.mono ?_; rintro e w' ⟨rfl, hb⟩)
    go_ret3
    rw [vtint_none _ HT.out]
    exact ⟨rfl, hb⟩
  | some p =>
    obtain ⟨u, r⟩ := p
    have hu := (vtake_some ht).2
    have hu0 : (0 : Int) ≤ (u : Int) := by omega
    have hu1 : (u : Int) < 18446744073709551616 := by omega
    have hc := rtake_any A n c l w hA hn hnc hnb hl
    rw [ht] at hc
    have ht' : Option.map (fun p : Nat × List UInt8 => ((p.1 : Int), p.2)) (some (u, r)) = some ((u : Int), r) := rfl
    rw [ht'] at hc
    obtain ⟨U, hU⟩ : ∃ U : Int, U = (u : Int) := ⟨_, rfl⟩
    rw [← hU] at hc hu0 hu1
    have HU := Lib.hid hU
    have HC := Lib.hid hc
    have HT := Lib.hid ht
    clear hc ht hu ht' hU
    cases s with
    | true =>
      go_enter Tryd.func40, Tryd.ntmps40
      go_wp2_with (first | (go_at_call 64; refine HC.out.mono ?_; rintro e w' ⟨A1, c1, rfl, h2⟩; have H2 := Lib.hid h2; clear h2) | (go_at_call 65; refine (rzag_any _ _ hu0 hu1).mono ?_; rintro e w2 ⟨rfl, rfl⟩))
      go_ret3
      rw [vtint_true HT.out, ← HU.out]
      exact ⟨A1, c1, rfl, H2.out⟩
    | false =>
      by_cases hbig : U < 9223372036854775808
      · have hb2 : ¬ (9223372036854775807 : Int) < U := by omega
        have hb3 : ¬ (9223372036854775808 : Int) ≤ U := by omega
        go_enter Tryd.func40, Tryd.ntmps40
        go_wp2_with (go_at_call 64; refine HC.out.mono ?_; rintro e w' ⟨A1, c1, rfl, h2⟩; have H2 := Lib.hid h2; clear h2)
        go_ret3
        rw [vtint_small HT.out (by have := HU.out; omega), ← HU.out]
        exact ⟨A1, c1, rfl, H2.out⟩
      · have hb2 : (9223372036854775807 : Int) < U := by omega
        have hb3 : (9223372036854775808 : Int) ≤ U := by omega
        go_enter Tryd.func40, Tryd.ntmps40
        go_wp2_with (go_at_call 64; refine HC.out.mono ?_; rintro e w' ⟨A1, c1, rfl, h2⟩; have H2 := Lib.hid h2; clear h2)
        go_ret3
        rw [vtint_big HT.out (by have := HU.out; omega)]
        exact ⟨rfl, H2.out.2.2.2.2⟩
end Go.Proofs.YtchgpgnipmmflaaDoor

/- Numbers that rise, or fall (layer 9), as plain mathematics. -/





namespace Go.Proofs.YtchgpgnipmmflaaDoor

/-- By how much, whether it falls, whether that is a difference. -/
def gdiff (a b : Int) : Nat × Bool × Bool :=
  if b < a then (if 9223372036854775808 ≤ a - b then (0, false, false) else ((a - b).toNat, true, true))
  else if 9223372036854775808 ≤ b - a then (0, false, false) else ((b - a).toNat, false, true)
def gstep (a : Int) (u : Nat) (f : Bool) : Int × Bool :=
  if 9223372036854775808 ≤ (u : Int) then (0, false)
  else if f = true then (if a < -9223372036854775808 + (u : Int) then (0, false) else (a - u, true))
  else if 9223372036854775807 - (u : Int) < a then (0, false) else (a + u, true)
theorem gdiff_cases (a b : Int) : (gdiff a b = (0, false, false) ∧ (9223372036854775808 ≤ a - b ∨ 9223372036854775808 ≤ b - a)) ∨
    (b < a ∧ a - b < 9223372036854775808 ∧ gdiff a b = ((a - b).toNat, true, true)) ∨ (a ≤ b ∧ b - a < 9223372036854775808 ∧ gdiff a b = ((b - a).toNat, false, true)) := by
  unfold gdiff
  by_cases h : b < a
  · rw [if_pos h]
    by_cases h2 : 9223372036854775808 ≤ a - b
    · rw [if_pos h2]; exact .inl ⟨rfl, .inl h2⟩
    · rw [if_neg h2]; exact .inr (.inl ⟨h, by omega, rfl⟩)
  · rw [if_neg h]
    by_cases h2 : 9223372036854775808 ≤ b - a
    · rw [if_pos h2]; exact .inl ⟨rfl, .inr h2⟩
    · rw [if_neg h2]; exact .inr (.inr ⟨by omega, by omega, rfl⟩)
theorem gdiff_lt (a b : Int) : ((gdiff a b).1 : Int) < 9223372036854775808 := by
  rcases gdiff_cases a b with ⟨h, _⟩ | ⟨h1, h2, h⟩ | ⟨h1, h2, h⟩ <;> rw [h] <;> dsimp only <;> omega
theorem gdiff_lt64 (a b : Int) : (gdiff a b).1 < 2 ^ 64 := by
  have := gdiff_lt a b
  show (gdiff a b).1 < 18446744073709551616
  omega
theorem gstep_bd {a : Int} {u : Nat} {f : Bool} (ha : inInt a) : inInt (gstep a u f).1 := by
  unfold inInt at ha ⊢
  unfold gstep
  split
  · exact ⟨by omega, by omega⟩
  · split
    · split
      · exact ⟨by omega, by omega⟩
      · exact ⟨by dsimp only; omega, by dsimp only; omega⟩
    · split
      · exact ⟨by omega, by omega⟩
      · exact ⟨by dsimp only; omega, by dsimp only; omega⟩
/-- P9.1: a difference leads from the one to the other. -/
theorem gstep_gdiff {a b : Int} (hb : inInt b) (h : (gdiff a b).2.2 = true) : gstep a (gdiff a b).1 (gdiff a b).2.1 = (b, true) := by
  unfold inInt at hb
  rcases gdiff_cases a b with ⟨h3, _⟩ | ⟨h1, h2, h3⟩ | ⟨h1, h2, h3⟩
  · rw [h3] at h; cases h
  · rw [h3]
    dsimp only
    unfold gstep
    have e : (((a - b).toNat : Nat) : Int) = a - b := by omega
    rw [e, if_neg (by omega), if_pos rfl, if_neg (by omega)]
    congr 1
    omega
  · rw [h3]
    dsimp only
    unfold gstep
    have e : (((b - a).toNat : Nat) : Int) = b - a := by omega
    rw [e, if_neg (by omega), if_neg (by decide), if_neg (by omega)]
    congr 1
    omega
theorem gdiff_back (a b : Int) : (gdiff b a).1 = (gdiff a b).1 ∧ (gdiff b a).2.2 = (gdiff a b).2.2 := by
  rcases gdiff_cases a b with ⟨h, h1⟩ | ⟨h1, h2, h⟩ | ⟨h1, h2, h⟩ <;> rcases gdiff_cases b a with ⟨k, k1⟩ | ⟨k1, k2, k⟩ | ⟨k1, k2, k⟩ <;> rw [h, k] <;> dsimp only <;> first | exact ⟨rfl, rfl⟩ | (exfalso; omega) | exact ⟨by omega, rfl⟩
theorem gdiff_self (a : Int) : gdiff a a = (0, false, true) := by unfold gdiff; rw [if_neg (by omega), if_neg (by omega)]; simp
/-- A size, of two numbers one behind the other, if they fall, or rise, as is said. -/
def gone (f : Bool) (a b : Int) : Option Nat := if (gdiff a b).2.2 = true ∧ ((gdiff a b).1 = 0 ∨ (gdiff a b).2.1 = f) then some (gdiff a b).1 else none
theorem gone_yes {f : Bool} {a b : Int} (h : (gdiff a b).2.2 = true) (h2 : (gdiff a b).1 = 0 ∨ (gdiff a b).2.1 = f) : gone f a b = some (gdiff a b).1 := if_pos ⟨h, h2⟩
theorem gone_not {f : Bool} {a b : Int} (h : ¬ ((gdiff a b).2.2 = true ∧ ((gdiff a b).1 = 0 ∨ (gdiff a b).2.1 = f))) : gone f a b = none := if_neg h
theorem gone_lt {f : Bool} {a b : Int} {u : Nat} (h : gone f a b = some u) : (u : Int) < 9223372036854775808 := by
  unfold gone at h
  split at h
  · injection h with h; rw [← h]; exact gdiff_lt a b
  · cases h
theorem gone_step {f : Bool} {a b : Int} {u : Nat} (ha : inInt a) (hb : inInt b) (h : gone f a b = some u) : gstep a u f = (b, true) := by
  unfold gone at h
  split at h
  · rename_i hh
    injection h with h
    subst h
    have hs := gstep_gdiff hb hh.1
    rcases hh.2 with h0 | h0
    · rcases gdiff_cases a b with ⟨k, _⟩ | ⟨k1, k2, k⟩ | ⟨k1, k2, k⟩
      · rw [k] at hh; cases hh.1
      · rw [k] at h0; dsimp only at h0; omega
      · rw [k] at h0
        dsimp only at h0
        have e : a = b := by omega
        subst e
        rw [gdiff_self]
        unfold inInt at ha
        unfold gstep
        rw [if_neg (by decide)]
        dsimp only
        cases f
        · rw [if_neg (by decide), if_neg (by omega)]; simp
        · rw [if_pos rfl, if_neg (by omega)]; simp
    · rw [h0] at hs; exact hs
  · cases h
def gat (l : List Int) (f : Bool) (i : Nat) : Option Nat := gone f (l.getD i 0) (l.getD (i + 1) 0)
/-- The sizes of numbers. -/
def gsizes (l : List Int) (f : Bool) (k : Nat) : Option (List Nat) := omap (gat l f) (List.range k)
theorem gsizes_succ {l : List Int} {f : Bool} {k : Nat} {us : List Nat} {u : Nat} (h : gsizes l f k = some us) (hu : gat l f k = some u) : gsizes l f (k + 1) = some (us ++ [u]) := by
  unfold gsizes at *
  rw [List.range_succ, omap_snoc, h, hu]
theorem gsizes_none {l : List Int} {f : Bool} {k n : Nat} (hk : k < n) (h : gat l f k = none) : gsizes l f n = none := omap_none (List.mem_range.2 hk) h
theorem gsizes_len {l : List Int} {f : Bool} {k : Nat} {us : List Nat} (h : gsizes l f k = some us) : us.length = k := by rw [omap_len h, List.length_range]
theorem gsizes_lt {l : List Int} {f : Bool} {k : Nat} {us : List Nat} (h : gsizes l f k = some us) : ∀ u ∈ us, (u : Int) < 9223372036854775808 := by
  intro u hu
  obtain ⟨i, _, hi⟩ := omap_mem h hu
  exact gone_lt hi
theorem gsizes_64 {l : List Int} {f : Bool} {k : Nat} {us : List Nat} (h : gsizes l f k = some us) : ∀ u ∈ us, u < 2 ^ 64 := by
  intro u hu
  have := gsizes_lt h u hu
  show u < 18446744073709551616
  omega
def gfalls (l : List Int) : Bool := decide (l.getD 1 0 < l.getD 0 0)
/-- Are all sizes the same? -/
def gall (us : List Nat) : Bool := us.all fun u => u == us.headD 0
def gwide (us : List Nat) : Nat := (wclosest (max 2 (wmost us) : Nat)).toNat
def gcode (us : List Nat) : Nat := (wcode (gwide us : Int)).toNat
/-- A code and a width that stand for one another, for so many bits. -/
theorem gwide_code : ∀ n : Fin 65, 2 ≤ n.val → 2 ≤ wclosest (n.val : Int) ∧ wclosest (n.val : Int) ≤ 64 ∧ 1 ≤ wcode (wclosest (n.val : Int)) ∧ wcode (wclosest (n.val : Int)) ≤ 31 ∧ wof (wcode (wclosest (n.val : Int))) = wclosest (n.val : Int) ∧ (n.val : Int) ≤ wclosest (n.val : Int) := by decide +kernel
theorem gwide_int {us : List Nat} (h : ∀ u ∈ us, u < 2 ^ 64) : wclosest ((max 2 (wmost us) : Nat) : Int) = (gwide us : Int) ∧ wcode (gwide us : Int) = (gcode us : Int) ∧ wof (gcode us : Int) = (gwide us : Int) ∧ 2 ≤ gwide us ∧ gwide us ≤ 64 ∧ 1 ≤ gcode us ∧ gcode us ≤ 31 ∧ wmost us ≤ gwide us := by
  have hm := wmost_64 h
  have h1 := gwide_code ⟨max 2 (wmost us), by omega⟩ (Nat.le_max_left _ _)
  dsimp only at h1
  have e1 : wclosest ((max 2 (wmost us) : Nat) : Int) = (gwide us : Int) := by unfold gwide; omega
  rw [e1] at h1
  have e2 : wcode (gwide us : Int) = (gcode us : Int) := by unfold gcode; omega
  rw [e2] at h1
  exact ⟨e1, e2, h1.2.2.2.2.1, by omega, by omega, by omega, by omega, by omega⟩
theorem gwide_room {us : List Nat} (h : ∀ u ∈ us, u < 2 ^ 64) : ∀ u ∈ us, u < 2 ^ gwide us := by
  obtain ⟨_, _, _, _, h1, _, _, h2⟩ := gwide_int h
  intro u hu
  have h3 := (wbits_iff (wtop_lt h) h1).1 (by rw [wtop_bits h]; exact h2)
  exact Nat.lt_of_le_of_lt (wtop_mem hu) h3
/-- The first difference, as a number with its sign. -/
def gfirst (l : List Int) (us : List Nat) : Int := if gfalls l = true then -(us.headD 0 : Int) else (us.headD 0 : Int)
def gtail (us : List Nat) : List UInt8 := if gall us = true then [] else bpack us.tail (gwide us.tail)
def gnum (us : List Nat) : Nat := if gall us = true then 0 else gcode us.tail
def glay (l : List Int) (s : Bool) (us : List Nat) : List UInt8 := dheadN 3 (gnum us) l.length ++ vput (vint (l.headD 0) s) ++ vput (vint (gfirst l us) true) ++ gtail us
/-- What Put answers. -/
def gputE (l : List Int) (s : Bool) : List UInt8 × Int :=
  if dplain l s = none ∨ l.length < 2 ∨ 512 < l.length then ([], 1)
  else match gsizes l (gfalls l) (l.length - 1) with | none => ([], 1) | some us => (glay l s us, 0)
theorem gputE_no {l : List Int} {s : Bool} (h : dplain l s = none ∨ l.length < 2 ∨ 512 < l.length) : gputE l s = ([], 1) := if_pos h
theorem gputE_none {l : List Int} {s : Bool} (h : gsizes l (gfalls l) (l.length - 1) = none) : gputE l s = ([], 1) := by unfold gputE; split <;> simp [h]
theorem gputE_some {l : List Int} {s : Bool} {us : List Nat} (h1 : dplain l s ≠ none) (h2 : 2 ≤ l.length) (h3 : l.length ≤ 512) (h : gsizes l (gfalls l) (l.length - 1) = some us) : gputE l s = (glay l s us, 0) := by
  unfold gputE
  rw [if_neg (by rintro (h | h | h) <;> first | exact h1 h | omega), h]
/-- The next number. -/
def gnext (s f : Bool) (x : Int) (u : Nat) : Option Int := if (gstep x u f).2 = true ∧ (s = true ∨ 0 ≤ (gstep x u f).1) then some (gstep x u f).1 else none
def gwalk (s f : Bool) : Int → List Nat → Option (List Int)
  | _, [] => some []
  | x, u :: us => match gnext s f x u with | none => none | some y => (gwalk s f y us).map (y :: ·)
def glast : Int → List Int → Int
  | x, [] => x
  | _, y :: ys => glast y ys
theorem glast_snoc (x : Int) (ys : List Int) (y : Int) : glast x (ys ++ [y]) = y := by
  induction ys generalizing x with
  | nil => rfl
  | cons z zs ih => exact ih z
theorem gwalk_snoc (s f : Bool) (x : Int) (us : List Nat) (u : Nat) : gwalk s f x (us ++ [u]) = match gwalk s f x us with | none => none | some ys => match gnext s f (glast x ys) u with | none => none | some y => some (ys ++ [y]) := by
  induction us generalizing x with
  | nil =>
    simp only [List.nil_append, gwalk, glast]
    cases gnext s f x u <;> rfl
  | cons v us ih =>
    simp only [List.cons_append, gwalk]
    cases gnext s f x v with
    | none => rfl
    | some y =>
      dsimp only
      rw [ih]
      cases gwalk s f y us with
      | none => rfl
      | some ys =>
        simp only [Option.map_some, glast]
        cases gnext s f (glast y ys) u <;> rfl
theorem gwalk_len {s f : Bool} : ∀ {us : List Nat} {x : Int} {ys : List Int}, gwalk s f x us = some ys → ys.length = us.length
  | [], x, ys, h => by simp [gwalk] at h; subst h; rfl
  | u :: us, x, ys, h => by
    rw [gwalk] at h
    cases hn : gnext s f x u with
    | none => rw [hn] at h; cases h
    | some y =>
      rw [hn] at h
      dsimp only at h
      cases hw : gwalk s f y us with
      | none => rw [hw] at h; cases h
      | some zs =>
        rw [hw] at h
        simp at h
        subst h
        simp [gwalk_len hw]
theorem gwalk_take_none {s f : Bool} {x : Int} {us : List Nat} {k : Nat} (h : gwalk s f x (us.take k) = none) : gwalk s f x us = none := by
  induction us generalizing x k with
  | nil => simp [gwalk] at h
  | cons u us ih =>
    cases k with
    | zero => simp [gwalk] at h
    | succ k =>
      rw [List.take_succ_cons, gwalk] at h
      rw [gwalk]
      cases hn : gnext s f x u with
      | none => rfl
      | some y =>
        rw [hn] at h
        dsimp only at h ⊢
        cases hw : gwalk s f y (us.take k) with
        | none => rw [ih hw]; rfl
        | some zs => rw [hw] at h; cases h
/-- What Take answers. -/
def gbad : List Int × List UInt8 × Int := ([], [], 2)
def gend (s f : Bool) (x : Int) (us : List Nat) (q : List UInt8) : List Int × List UInt8 × Int := match gwalk s f x us with | none => gbad | some ys => (x :: ys, q, 0)
def gmore (s f : Bool) (x : Int) (u : Nat) (c m : Int) (r : List UInt8) : List Int × List UInt8 × Int :=
  if 0 < c then match unpacksAny r (m - 2) (wof c) with | (us, q, e) => if e ≠ 0 then gbad else gend s f x (u :: us) q
  else gend s f x (List.replicate (m - 1).toNat u) r
def gbody (s : Bool) (c m : Int) (r : List UInt8) : List Int × List UInt8 × Int :=
  match vtint r s with
  | none => gbad
  | some (x, r1) => match vtint r1 true with
    | none => gbad
    | some (d, r2) => if (gdiff 0 d).2.2 = true then gmore s (gdiff 0 d).2.1 x (gdiff 0 d).1 c m r2 else gbad
def gtakeE (l : List UInt8) (s : Bool) : List Int × List UInt8 × Int :=
  if (dlook l).2.2.2.2 ≠ 0 ∨ (dlook l).1 ≠ 3 ∨ (dlook l).2.2.1 < 2 then gbad else gbody s (dlook l).2.1 (dlook l).2.2.1 (dlook l).2.2.2.1

theorem vtint_put {x : Int} {s : Bool} (hx : inInt x) (h : s = true ∨ 0 ≤ x) (r : List UInt8) : vtint (vput (vint x s) ++ r) s = some (x, r) := by
  unfold inInt at hx
  cases s with
  | true =>
    have hb := vzig_bd hx.1 hx.2
    have e : vint x true = (vzig x).toNat := rfl
    rw [e, vtint_true (vtake_put (by omega) r), Int.toNat_of_nonneg hb.1, vzag_vzig]
  | false =>
    have h0 : 0 ≤ x := h.elim (fun h => nomatch h) id
    have e : vint x false = (x % 18446744073709551616).toNat := rfl
    have e2 : x % 18446744073709551616 = x := by omega
    rw [e, e2, vtint_small (vtake_put (by omega) r) (by omega), Int.toNat_of_nonneg h0]
theorem gnext_of {s f : Bool} {a b : Int} {u : Nat} (ha : inInt a) (hb : inInt b) (hs : s = true ∨ 0 ≤ b) (h : gone f a b = some u) : gnext s f a u = some b := by
  unfold gnext
  rw [gone_step ha hb h]
  exact if_pos ⟨rfl, hs⟩
/-- Sizes lead from each number to the next one. -/
theorem gwalk_sizes {s f : Bool} {l : List Int} (hl : ∀ x ∈ l, inInt x ∧ (s = true ∨ 0 ≤ x)) : ∀ (k : Nat) (us : List Nat), k + 1 ≤ l.length → gsizes l f k = some us → gwalk s f (l.getD 0 0) us = some ((l.drop 1).take k) ∧ glast (l.getD 0 0) ((l.drop 1).take k) = l.getD k 0
  | 0, us, _, h => by simp [gsizes, omap] at h; subst h; simp [gwalk, glast]
  | k + 1, us, hk, h => by
    unfold gsizes at h
    rw [List.range_succ, omap_snoc] at h
    cases hg : omap (gat l f) (List.range k) with
    | none => rw [hg] at h; cases h
    | some vs =>
      rw [hg] at h
      dsimp only at h
      cases hu : gat l f k with
      | none => rw [hu] at h; cases h
      | some u =>
        rw [hu] at h
        injection h with h
        subst h
        obtain ⟨h1, h2⟩ := gwalk_sizes hl k vs (by omega) hg
        have hd : (l.drop 1).take (k + 1) = (l.drop 1).take k ++ [l.getD (k + 1) 0] := by
          rw [List.take_succ_eq_append_getElem (by rw [List.length_drop]; omega), List.getElem_drop]
          congr 2
          rw [List.getD_eq_getElem?_getD, List.getElem?_eq_getElem (show k + 1 < l.length by omega)]
          simp [Nat.add_comm]
        have hm : ∀ i, i < l.length → inInt (l.getD i 0) ∧ (s = true ∨ 0 ≤ l.getD i 0) := by
          intro i hi
          rw [List.getD_eq_getElem?_getD, List.getElem?_eq_getElem hi]
          exact hl _ (List.getElem_mem hi)
        refine ⟨?_, by rw [hd, glast_snoc]⟩
        rw [gwalk_snoc, h1, hd]
        dsimp only
        rw [h2, gnext_of (hm k (by omega)).1 (hm (k + 1) (by omega)).1 (hm (k + 1) (by omega)).2 hu]
theorem gall_same {us : List Nat} (h : gall us = true) : us = List.replicate us.length (us.headD 0) := by
  unfold gall at h
  rw [List.eq_replicate_iff]
  refine ⟨rfl, fun u hu => ?_⟩
  have := List.all_eq_true.1 h u hu
  simpa using this
/-- What the first size says: how much, and whether it falls. -/
theorem gfirst_diff {l : List Int} {us : List Nat} (h2 : 2 ≤ l.length) (h : gsizes l (gfalls l) (l.length - 1) = some us) : gdiff 0 (gfirst l us) = (us.headD 0, gfalls l, true) ∧ inInt (gfirst l us) := by
  obtain ⟨k, hk⟩ : ∃ k, l.length - 1 = k + 1 := ⟨l.length - 2, by omega⟩
  have h0 : gat l (gfalls l) 0 = some (us.headD 0) := by
    unfold gsizes at h
    rw [hk, List.range_succ_eq_map, omap] at h
    cases hz : gat l (gfalls l) 0 with
    | none => rw [hz] at h; cases h
    | some u =>
      rw [hz] at h
      dsimp only at h
      cases hr : omap (gat l (gfalls l)) ((List.range k).map Nat.succ) with
      | none => rw [hr] at h; cases h
      | some vs => rw [hr] at h; injection h with h; subst h; rfl
  have hlt := gone_lt h0
  have hf : gfalls l = true → 0 < us.headD 0 := by
    intro hf
    have hba : l.getD 1 0 < l.getD 0 0 := of_decide_eq_true hf
    unfold gat gone at h0
    split at h0
    · injection h0 with h0
      rename_i hh
      rcases gdiff_cases (l.getD 0 0) (l.getD (0 + 1) 0) with ⟨k, _⟩ | ⟨k1, k2, k⟩ | ⟨k1, k2, k⟩
      · rw [k] at hh; cases hh.1
      · rw [k] at h0; dsimp only at h0; omega
      · rw [Nat.zero_add] at k1; omega
    · cases h0
  unfold gfirst inInt
  generalize us.headD 0 = u at *
  cases hg : gfalls l with
  | true =>
    have := hf hg
    rw [if_pos rfl]
    refine ⟨?_, by omega, by omega⟩
    unfold gdiff
    rw [if_pos (by omega), if_neg (by omega)]
    congr 1
    omega
  | false =>
    rw [if_neg (by decide)]
    refine ⟨?_, by omega, by omega⟩
    unfold gdiff
    rw [if_neg (by omega), if_neg (by omega)]
    congr 1
/-- P9.4. -/
theorem gtake_back {l : List Int} {s : Bool} {us : List Nat} (hl : ∀ x ∈ l, inInt x ∧ (s = true ∨ 0 ≤ x)) (h2 : 2 ≤ l.length) (h5 : l.length ≤ 512) (h : gsizes l (gfalls l) (l.length - 1) = some us) (b : List UInt8) :
    gtakeE (glay l s us ++ b) s = (l, b, 0) := by
  obtain ⟨hd, hi⟩ := gfirst_diff h2 h
  have hul := gsizes_len h
  have h64 := gsizes_64 h
  have h64t : ∀ u ∈ us.tail, u < 2 ^ 64 := fun u hu => h64 u (List.mem_of_mem_tail hu)
  obtain ⟨hw, _⟩ := gwalk_sizes hl (l.length - 1) us (by omega) h
  obtain ⟨x0, l', rfl⟩ : ∃ x0 l', l = x0 :: l' := by cases l with | nil => simp at h2 | cons x0 l' => exact ⟨x0, l', rfl⟩
  have hw' : gwalk s (gfalls (x0 :: l')) x0 us = some l' := by
    rw [List.length_cons, Nat.add_sub_cancel] at hw
    simpa using hw
  have hx := hl x0 List.mem_cons_self
  have hcode : gnum us ≤ 31 := by
    unfold gnum
    split
    · omega
    · exact (gwide_int h64t).2.2.2.2.2.2.1
  have hlook : dlook (glay (x0 :: l') s us ++ b) = (3, (gnum us : Int), ((x0 :: l').length : Int), vput (vint x0 s) ++ (vput (vint (gfirst (x0 :: l') us) true) ++ (gtail us ++ b)), 0) := by
    unfold glay
    simp only [List.append_assoc]
    exact dlook_head (k := 3) (by omega) hcode (by omega) h5 _
  unfold gtakeE
  rw [hlook]
  dsimp only
  rw [if_neg (by omega)]
  unfold gbody
  rw [vtint_put hx.1 hx.2]
  dsimp only
  rw [vtint_put hi (.inl rfl)]
  dsimp only
  rw [hd]
  dsimp only
  rw [if_pos rfl]
  unfold gmore
  by_cases ha : gall us = true
  · have e1 : gnum us = 0 := by unfold gnum; rw [if_pos ha]
    have e2 : gtail us = [] := by unfold gtail; rw [if_pos ha]
    have e3 : List.replicate (((x0 :: l').length : Int) - 1).toNat (us.headD 0) = us := by
      rw [show (((x0 :: l').length : Int) - 1).toNat = us.length by omega]
      exact (gall_same ha).symm
    rw [e1, e2, if_neg (by omega), e3]
    unfold gend
    rw [hw']
    rfl
  · have e1 : gnum us = gcode us.tail := by unfold gnum; rw [if_neg ha]
    have e2 : gtail us = bpack us.tail (gwide us.tail) := by unfold gtail; rw [if_neg ha]
    obtain ⟨_, _, g3, g4, g5, g6, g7, _⟩ := gwide_int h64t
    have hut : (us.tail).length = (x0 :: l').length - 2 := by rw [List.length_tail]; omega
    have e4 : ((x0 :: l').length : Int) - 2 = ((us.tail).length : Int) := by omega
    have e5 : us = us.headD 0 :: us.tail := by cases us with | nil => simp at hul h2; omega | cons a t => rfl
    rw [e1, e2, if_pos (by omega), g3, e4, unpacksAny_in _ _ _ (by omega) g5, unpacks_back (gwide_room h64t)]
    dsimp only
    rw [if_neg (by decide), ← e5]
    unfold gend
    rw [hw']
end Go.Proofs.YtchgpgnipmmflaaDoor

/- Package-level tables: from what a row lists of a variable to the block in which it lies. Over any program. -/















namespace Go.Proofs.YtchgpgnipmmflaaDoor

open Go.RowKit Go.ChangeShapes Go.WideShapes Go.ChangeAt

/-- A table of whole numbers that a row lists lies as it is listed. -/
theorem row_of_laid {P : Program} {W : World} {n : String} {g m : Nat} {t e : TypeId} {k : IntKind} {zs : List Int} (hg : P.globalNamed n = some g) (ht : (P.globals[g]?).map (·.type) = some t)
    (hu : P.underlying t = some (.array m e)) (he : P.underlying e = some (.int k)) (hc : P.cellsOf e = 1) (hct : P.cellsOf t = m) (hm : 0 < m)
    (h : laidMet P [(n, .agg (zs.map fun z => .lit (.int k z)))] W) : ∃ t', Row W g t' (zs.map (Value.int k)) := by
  obtain ⟨ps, ⟨g0, t0, cs, fuel, p, q, hg0, ht0, hv, hd, hq, hps⟩, _, hrow⟩ := h
  obtain rfl := Option.some.inj (hg.symm.trans hg0)
  obtain rfl := Option.some.inj (ht.symm.trans ht0)
  obtain ⟨xs, f, rfl, hx, hlen, hn, hel⟩ := DataW.trod_array hu hd
  simp only [Prod.mk.injEq, DataW.agg.injEq] at hx
  have hlz : zs.length = m := by have := congrArg List.length hx.1; simp at this; omega
  have hcs : cs.toList = zs.map (Value.int k) := by
    refine List.ext_getElem? fun i => ?_
    by_cases hi : i < m
    · have h1 := hel i hi
      have hxi : i < xs.length := by omega
      have hzi : i < zs.length := by omega
      have hci : i < cs.toList.length := by omega
      rw [List.getElem?_eq_getElem hxi, hc, Nat.mul_one, List.drop_eq_getElem_cons hci, List.take_succ_cons, List.take_zero] at h1
      obtain ⟨z, e1, e2, _⟩ := DataW.trod_int he h1
      have h2 : (zs.map fun z => (DataW.lit (.int k z) : DataW Unit))[i]? = (xs.map (·.1))[i]? := by rw [hx.1]
      rw [List.getElem?_map, List.getElem?_map, List.getElem?_eq_getElem hxi, List.getElem?_eq_getElem hzi] at h2
      simp only [Option.map_some, Option.some.injEq, e2, DataW.lit.injEq, Lit.int.injEq, true_and] at h2
      simp only [List.cons.injEq, and_true] at e1
      rw [List.getElem?_eq_getElem hci, e1, List.getElem?_map, List.getElem?_eq_getElem hzi, ← h2]
      rfl
    · rw [List.getElem?_eq_none (by omega), List.getElem?_eq_none (by simp; omega)]
  have hin : MemPlace.cell g 0 ∈ ps := by
    rw [hps]
    refine List.mem_append_left _ (List.mem_append_left _ ?_)
    have hs : 0 < cs.size := by have : cs.toList.length = cs.size := rfl; omega
    exact MemPlace.mem_row.2 ⟨0, hs, by simp⟩
  obtain ⟨⟨c, t', hb⟩, _⟩ := hrow g 0 hin
  refine ⟨t', ?_⟩
  unfold Row
  rw [hb]
  simp only [World.var?, hg, Option.bind_some, hb, Option.some.injEq] at hv
  subst hv
  obtain ⟨l⟩ := c
  simp only at hcs
  rw [hcs]
theorem run_index_array {P : Program} (w : World) (t e : TypeId) (n : Nat) (cs : List Value) (k : IntKind) (i : Nat) (h : P.underlying t = some (.array n e)) (hn : i < n) (hs : ∀ w, (sizeOf e).run P w = .ok 1 w) (ha : ∀ w, (isAgg e).run P w = .ok false w) (v : Value) (hv : cs[i]? = some v) :
    (Instr.index t (.agg cs.toArray) (.int k (i : Int))).run P w = .ok v w := by
  simp [Instr.index, run_underlying h, asIntOf, hn, go_sem, hs, ha, hv]
end Go.Proofs.YtchgpgnipmmflaaDoor

/- Contracts of widths' functions, and of the reference's. -/









namespace Go.Proofs.YtchgpgnipmmflaaDoor

open Go.RowKit

/-- The table lies where it was laid. -/
def WTab (w : World) : Prop := ∃ t, Row w 0 t (wtab.map (Value.int .i64))
theorem WTab.below {B : Nat} {w w' : World} (h : WTab w) (hb : Below B w w') (hB : 0 < B) : WTab w' := h.elim fun t h => ⟨t, h.below hb hB⟩
theorem WTab.lt {w : World} (h : WTab w) : 0 < w.heap.size := h.elim fun _ h => h.lt
theorem WTab.cell {w : World} (h : WTab w) {i : Nat} (hi : i < 32) : w.cell? ⟨0, i, none⟩ = some (.int .i64 (wat i)) := by
  obtain ⟨t, h⟩ := h
  rw [h.cell, List.getElem?_map, wat_get hi]; rfl

set_option maxRecDepth 100000 in
theorem of_any (c : Int) (w : World) (ht : WTab w) (h0 : -9223372036854775808 ≤ c) (h1 : c ≤ 9223372036854775807) :
    Calls Tryd.prog 52 #[.int .i64 c] w fun e w' => e = .returned (.int .i64 (wof c)) ∧ w = w' := by
  rcases (by omega : c < 0 ∨ 32 ≤ c ∨ (0 ≤ c ∧ c < 32)) with h | h | h
  · have e := Lib.hid (wof_out (c := c) (by omega))
    go_enter Tryd.func52, Tryd.ntmps52
    go_wp2
    go_ret
    exact ⟨ret_int e.out.symm, rfl⟩
  · have e := Lib.hid (wof_out (c := c) (by omega))
    have h2 : decide (c < 0) = false := by simp; omega
    go_enter Tryd.func52, Tryd.ntmps52
    go_wp2
    go_ret
    exact ⟨ret_int e.out.symm, rfl⟩
  · obtain ⟨n, rfl⟩ : ∃ n : Nat, c = n := ⟨c.toNat, by omega⟩
    have hn : n < 32 := by omega
    have e := Lib.hid (wof_in hn)
    have hc := ht.cell hn
    clear h
    go_enter Tryd.func52, Tryd.ntmps52
    go_wp2
    go_ret
    exact ⟨ret_int e.out.symm, rfl⟩
set_option maxRecDepth 100000 in
theorem rof_any (c : Int) (w : World) (h0 : -9223372036854775808 ≤ c) (h1 : c ≤ 9223372036854775807) :
    Calls Tryd.prog 42 #[.int .i64 c] w fun e w' => e = .returned (.int .i64 (wof c)) ∧ w = w' := by
  rcases (by omega : c < 0 ∨ 31 < c ∨ (0 ≤ c ∧ c ≤ 31)) with h | h | h
  · have e := Lib.hid (wof_out (c := c) (by omega))
    go_enter Tryd.func42, Tryd.ntmps42
    go_wp2
    go_ret
    exact ⟨ret_int e.out.symm, rfl⟩
  · have e := Lib.hid (wof_out (c := c) (by omega))
    have h2 : decide (c < 0) = false := by simp; omega
    go_enter Tryd.func42, Tryd.ntmps42
    go_wp2
    go_ret
    exact ⟨ret_int e.out.symm, rfl⟩
  · obtain ⟨n, rfl⟩ : ∃ n : Nat, c = n := ⟨c.toNat, by omega⟩
    have hn : n < 32 := by omega
    have e := Lib.hid ((wof_in hn).trans (rof_eq ⟨n, hn⟩))
    rcases (by omega : n < 24 ∨ (24 ≤ n ∧ n < 28) ∨ 28 ≤ n) with h3 | ⟨h3, h4⟩ | h3
    · go_enter Tryd.func42, Tryd.ntmps42
      go_wp2
      go_ret
      exact ⟨ret_int (by rw [e.out, if_pos h3]), rfl⟩
    · have h5 : ¬ n < 24 := by omega
      go_enter Tryd.func42, Tryd.ntmps42
      go_wp2
      go_ret
      exact ⟨ret_int (by rw [e.out, if_neg h5, if_pos h4]), rfl⟩
    · have h5 : ¬ n < 24 := by omega
      have h6 : ¬ n < 28 := by omega
      go_enter Tryd.func42, Tryd.ntmps42
      go_wp2
      go_ret
      exact ⟨ret_int (by rw [e.out, if_neg h5, if_neg h6]), rfl⟩

def codeRel (x : Int) (i : Value) : Prop := ∃ k : Nat, i = .int .i64 k ∧ k ≤ 32 ∧ ∀ j, j < k → wat j ≠ x
set_option maxRecDepth 100000 in
theorem code_any (x : Int) (w : World) (ht : WTab w) :
    Calls Tryd.prog 49 #[.int .i64 x] w fun e w' => e = .returned (.int .i64 (wcode x)) ∧ w = w' := by
  have hi := fun (k : Nat) (hk : k < 32) => run_index_array (P := Tryd.prog) w 88 3 32 (wtab.map (Value.int .i64)) .i64 k Tryd.underlying88 hk (fun _ => by kernel_rfl) (fun _ => by kernel_rfl) (.int .i64 (wat k)) (by rw [List.getElem?_map, wat_get hk]; rfl)
  have HI := Lib.hid hi
  clear hi
  obtain ⟨t, hrow⟩ := ht
  have hblk : w.heap[0]? = some (.cells (wtab.map (Value.int .i64)).toArray t (0, 0)) := hrow
  clear hrow
  generalize hcs : (wtab.map (Value.int .i64)).toArray = cs at HI hblk
  have hsz : cs.size = 32 := by rw [← hcs]; rfl
  have HR := Lib.hid hblk
  have HZ := Lib.hid hsz
  clear hcs hsz hblk
  go_enter Tryd.func49, Tryd.ntmps49
  go_wp2_with (refine wpList_load_row rfl 88 (.global 0) rfl 0 rfl t cs (0, 0) _ HR.out Tryd.underlying88 rfl (by rw [HZ.out]; kernel_rfl) ?_)
  go_loop [6] (codeRel x) (fun i => 32 - (intOf i).toNat)
  case atStart => exact ⟨0, rfl, by omega, fun j hj => by omega⟩
  case round =>
    obtain ⟨k, rfl, hk, hb⟩ := hrel
    have HB := Lib.hid hb
    clear hb
    by_cases hlt : k < 32
    · have hx := HI.out k hlt
      have hw := wat_bd k
      by_cases hq : wat k = x
      · have HQ := Lib.hid hq
        have hq' : (wat k == x) = true := by simpa using hq
        clear hq
        go_wp2
        go_ret
        exact ⟨ret_int (wcode_at hlt HQ.out HB.out).symm, rfl⟩
      · have HQ : Hid (wat k ≠ x) := Lib.hid (by omega)
        have hq' : (wat k == x) = false := by simpa using hq
        clear hq
        go_wp2
        go_round
        case rel => exact ⟨k + 1, by go_num, by omega, fun j hj => by rcases (by omega : j < k ∨ j = k) with h | rfl; exact HB.out j h; exact HQ.out⟩
        case measure => simp [intOf]; omega
    · obtain rfl : k = 32 := by omega
      go_wp2
      go_ret
      exact ⟨ret_int (wcode_none HB.out).symm, rfl⟩
set_option maxRecDepth 100000 in
theorem rcode_any (x : Int) (w : World) :
    Calls Tryd.prog 31 #[.int .i64 x] w fun e w' => e = .returned (.int .i64 (wcode x)) ∧ w = w' := by
  go_enter Tryd.func31, Tryd.ntmps31
  go_wp2
  go_loop [3] (codeRel x) (fun i => 32 - (intOf i).toNat)
  case atStart => exact ⟨0, rfl, by omega, fun j hj => by omega⟩
  case round =>
    obtain ⟨k, rfl, hk, hb⟩ := hrel
    have HB := Lib.hid hb
    clear hb
    by_cases hlt : k < 32
    · have hw := wat_bd k
      have hof := rof_any (k : Int)
      rw [wof_in hlt] at hof
      have HO := Lib.hid hof
      clear hof
      by_cases hq : wat k = x
      · have HQ := Lib.hid hq
        have hq' : (wat k == x) = true := by simpa using hq
        clear hq
        go_wp2_with (go_at_call 42; refine (HO.out _ (by omega) (by omega)).mono ?_; rintro e w' ⟨rfl, rfl⟩)
        go_ret
        exact ⟨ret_int (wcode_at hlt HQ.out HB.out).symm, rfl⟩
      · have HQ : Hid (wat k ≠ x) := Lib.hid (by omega)
        have hq' : (wat k == x) = false := by simpa using hq
        clear hq
        go_wp2_with (go_at_call 42; refine (HO.out _ (by omega) (by omega)).mono ?_; rintro e w' ⟨rfl, rfl⟩)
        go_round
        case rel => exact ⟨k + 1, by go_num, by omega, fun j hj => by rcases (by omega : j < k ∨ j = k) with h | rfl; exact HB.out j h; exact HQ.out⟩
        case measure => simp [intOf]; omega
    · obtain rfl : k = 32 := by omega
      go_wp2
      go_ret
      exact ⟨ret_int (wcode_none HB.out).symm, rfl⟩

def closestRel (x : Int) (i : Value) : Prop := ∃ k : Nat, i = .int .i64 k ∧ k ≤ 32 ∧ ∀ j, j < k → wat j < x
set_option maxRecDepth 100000 in
theorem closest_any (x : Int) (w : World) (ht : WTab w) :
    Calls Tryd.prog 46 #[.int .i64 x] w fun e w' => e = .returned (.int .i64 (wclosest x)) ∧ w = w' := by
  have hi := fun (k : Nat) (hk : k < 32) => run_index_array (P := Tryd.prog) w 88 3 32 (wtab.map (Value.int .i64)) .i64 k Tryd.underlying88 hk (fun _ => by kernel_rfl) (fun _ => by kernel_rfl) (.int .i64 (wat k)) (by rw [List.getElem?_map, wat_get hk]; rfl)
  have HI := Lib.hid hi
  clear hi
  obtain ⟨t, hrow⟩ := ht
  have hblk : w.heap[0]? = some (.cells (wtab.map (Value.int .i64)).toArray t (0, 0)) := hrow
  clear hrow
  generalize hcs : (wtab.map (Value.int .i64)).toArray = cs at HI hblk
  have hsz : cs.size = 32 := by rw [← hcs]; rfl
  have HR := Lib.hid hblk
  have HZ := Lib.hid hsz
  clear hcs hsz hblk
  go_enter Tryd.func46, Tryd.ntmps46
  go_wp2_with (refine wpList_load_row rfl 88 (.global 0) rfl 0 rfl t cs (0, 0) _ HR.out Tryd.underlying88 rfl (by rw [HZ.out]; kernel_rfl) ?_)
  go_loop [6] (closestRel x) (fun i => 32 - (intOf i).toNat)
  case atStart => exact ⟨0, rfl, by omega, fun j hj => by omega⟩
  case round =>
    obtain ⟨k, rfl, hk, hb⟩ := hrel
    have HB := Lib.hid hb
    clear hb
    by_cases hlt : k < 32
    · have hx := HI.out k hlt
      have hw := wat_bd k
      by_cases hq : x ≤ wat k
      · have HQ := Lib.hid hq
        have hq' : decide (x ≤ wat k) = true := by simpa using hq
        clear hq
        go_wp2
        go_ret
        exact ⟨ret_int (wclosest_at hlt HQ.out HB.out).symm, rfl⟩
      · have HQ : Hid (wat k < x) := Lib.hid (by omega)
        have hq' : decide (x ≤ wat k) = false := by simpa using hq
        clear hq
        go_wp2
        go_round
        case rel => exact ⟨k + 1, by go_num, by omega, fun j hj => by rcases (by omega : j < k ∨ j = k) with h | rfl; exact HB.out j h; exact HQ.out⟩
        case measure => simp [intOf]; omega
    · obtain rfl : k = 32 := by omega
      go_wp2
      go_ret
      exact ⟨ret_int (wclosest_none HB.out).symm, rfl⟩
set_option maxRecDepth 100000 in
theorem rclosest_any (x : Int) (w : World) :
    Calls Tryd.prog 29 #[.int .i64 x] w fun e w' => e = .returned (.int .i64 (wclosest x)) ∧ w = w' := by
  go_enter Tryd.func29, Tryd.ntmps29
  go_wp2
  go_loop [3] (closestRel x) (fun i => 32 - (intOf i).toNat)
  case atStart => exact ⟨0, rfl, by omega, fun j hj => by omega⟩
  case round =>
    obtain ⟨k, rfl, hk, hb⟩ := hrel
    have HB := Lib.hid hb
    clear hb
    by_cases hlt : k < 32
    · have hw := wat_bd k
      have hof := rof_any (k : Int)
      rw [wof_in hlt] at hof
      have HO := Lib.hid hof
      clear hof
      by_cases hq : x ≤ wat k
      · have HQ := Lib.hid hq
        have hq' : decide (x ≤ wat k) = true := by simpa using hq
        clear hq
        go_wp2_with (go_at_call 42; refine (HO.out _ (by omega) (by omega)).mono ?_; rintro e w' ⟨rfl, rfl⟩)
        go_ret
        exact ⟨ret_int (wclosest_at hlt HQ.out HB.out).symm, rfl⟩
      · have HQ : Hid (wat k < x) := Lib.hid (by omega)
        have hq' : decide (x ≤ wat k) = false := by simpa using hq
        clear hq
        go_wp2_with (go_at_call 42; refine (HO.out _ (by omega) (by omega)).mono ?_; rintro e w' ⟨rfl, rfl⟩)
        go_round
        case rel => exact ⟨k + 1, by go_num, by omega, fun j hj => by rcases (by omega : j < k ∨ j = k) with h | rfl; exact HB.out j h; exact HQ.out⟩
        case measure => simp [intOf]; omega
    · obtain rfl : k = 32 := by omega
      go_wp2
      go_ret
      exact ⟨ret_int (wclosest_none HB.out).symm, rfl⟩

end Go.Proofs.YtchgpgnipmmflaaDoor

/- Contracts of widths.Bits and Most, and of the reference's. -/



namespace Go.Proofs.YtchgpgnipmmflaaDoor

open Go.RowKit

theorem bits_any (x : Nat) (w : World) (h : x < 2 ^ 64) :
    Calls Tryd.prog 67 #[.int .u64 (x : Int)] w fun e w' => e = .returned (.int .i64 (wbits x : Int)) ∧ w = w' := by
  have hc := Tryd.bits_Len64 (x : Int)
  rw [Int.toNat_natCast] at hc
  have HC := Lib.hid hc
  clear hc
  have H := Lib.hid h
  clear h
  go_enter Tryd.func67, Tryd.ntmps67
  go_wp2_with (go_at_call 76; refine (HC.out _ (by omega) (by have := H.out; omega)).mono ?_; rintro e w' ⟨rfl, rfl⟩)
  go_ret
  exact ⟨rfl, rfl⟩
def RBitsRel (x : Nat) (v n : Value) : Prop := ∃ y m : Nat, v = .int .u64 y ∧ n = .int .i64 m ∧ y ≤ x ∧ m + wbits y = wbits x
theorem rbits_any (x : Nat) (w : World) (h : x < 2 ^ 64) :
    Calls Tryd.prog 55 #[.int .u64 (x : Int)] w fun e w' => e = .returned (.int .i64 (wbits x : Int)) ∧ w = w' := by
  have H64 := Lib.hid (wbits_64 h)
  have H := Lib.hid h
  clear h
  go_enter Tryd.func55, Tryd.ntmps55
  go_wp2
  go_loop [0, 3] (RBitsRel x) (fun v _ => (intOf v).toNat)
  case atStart => exact ⟨x, 0, rfl, rfl, Nat.le_refl _, by simp⟩
  case round =>
    obtain ⟨y, m, rfl, rfl, hy, he⟩ := hrel
    have HE := Lib.hid he
    clear he
    have hm : m ≤ 64 := by have := HE.out; have := H64.out; omega
    by_cases h0 : 0 < y
    · have HW : Hid (IntKind.u64.wrap ((y : Int) / 2) = ((y / 2 : Nat) : Int)) := Lib.hid (by have := H.out; rw [IntKind.wrap_u64]; omega)
      go_wp2
      go_round
      case rel =>
        refine ⟨y / 2, m + 1, by rw [HW.out], by go_num, by omega, ?_⟩
        have := wbits_half (x := y) (by omega) (by have := H.out; omega)
        have := HE.out
        omega
      case measure => simp only [intOf, HW.out, Int.toNat_natCast]; omega
    · obtain rfl : y = 0 := by omega
      go_wp2
      go_ret
      exact ⟨ret_int (by have := HE.out; rw [wbits_zero] at this; omega), rfl⟩

def MostRel (l : List Nat) (a i : Value) : Prop := ∃ k : Nat, k ≤ l.length ∧ i = .int .i64 k ∧ a = .int .u64 (wall (l.take k) : Nat)
theorem most_any (A : Option Addr) (n c : Nat) (l : List Nat) (w : World) (hA : A = none → n = 0) (hn : l.length = n) (hc : n ≤ c) (hm : n ≤ 1000000) (hl : Lies w A (l.map uv)) (h : ∀ x ∈ l, x < 2 ^ 64) :
    Calls Tryd.prog 47 #[.slice A n c] w fun e w' => e = .returned (.int .i64 (wmost l : Int)) ∧ w = w' := by
  have H := Lib.hid h
  have HN := Lib.hid hn
  clear h hn
  go_enter Tryd.func47, Tryd.ntmps47
  go_wp2
  go_loop [3, 8] (MostRel l) (fun _ i => n - (intOf i).toNat)
  case atStart => exact ⟨0, by omega, rfl, rfl⟩
  case round =>
    obtain ⟨k, hk, rfl, rfl⟩ := hrel
    have hk' : k ≤ n := by have := HN.out; omega
    have ht := wall_lt (l := l.take k) fun x hx => H.out x (List.mem_of_mem_take hx)
    by_cases hlt : k < n
    · have hkl : k < l.length := by have := HN.out; omega
      obtain ⟨ad, rfl, _, hcell⟩ := hl.cell (k := k) (by simpa using hkl)
      obtain ⟨x, hx⟩ : ∃ x : Nat, x = l[k] := ⟨_, rfl⟩
      have hcx : w.cell? (ad.add k) = some (.int .u64 (x : Int)) := by rw [hcell, List.getElem_map, hx]; rfl
      have hx64 : x < 2 ^ 64 := by rw [hx]; exact H.out _ (List.getElem_mem hkl)
      have hs : wall (l.take (k + 1)) = wall (l.take k) ||| x := by rw [List.take_succ_eq_append_getElem hkl, wall_snoc, hx]
      have ho := u64_or (wall (l.take k) : Int) (x : Int) (by omega) (by omega) (by omega) (by omega)
      rw [Int.toNat_natCast, Int.toNat_natCast] at ho
      have HS := Lib.hid hs
      have HX := Lib.hid hx
      clear hs hx hcell
      generalize wall (l.take k) = y at *
      have HT := Lib.hid ht
      have HX64 := Lib.hid hx64
      clear ht hx64
      go_wp2
      go_round
      case rel => exact ⟨k + 1, by omega, by go_num, by rw [HS.out]⟩
      case measure => simp [intOf]; omega
    · obtain rfl : k = n := by omega
      have hb := bits_any (wall (l.take k)) w ht
      rw [wall_bits (fun x hx => H.out x (List.mem_of_mem_take hx)), List.take_of_length_le (by have := HN.out; omega)] at hb
      have HB := Lib.hid hb
      clear hb ht
      rw [List.take_of_length_le (by have := HN.out; omega)] at *
      go_wp2_with (go_at_call 67; refine HB.out.mono ?_; rintro e w' ⟨rfl, rfl⟩)
      go_ret
      exact ⟨rfl, rfl⟩
def RMostRel (l : List Nat) (a i : Value) : Prop := ∃ k : Nat, k ≤ l.length ∧ i = .int .i64 k ∧ a = .int .i64 (wmost (l.take k) : Nat)
theorem rmost_any (A : Option Addr) (n c : Nat) (l : List Nat) (w : World) (hA : A = none → n = 0) (hn : l.length = n) (hc : n ≤ c) (hm : n ≤ 1000000) (hl : Lies w A (l.map uv)) (h : ∀ x ∈ l, x < 2 ^ 64) :
    Calls Tryd.prog 30 #[.slice A n c] w fun e w' => e = .returned (.int .i64 (wmost l : Int)) ∧ w = w' := by
  have H := Lib.hid h
  have HN := Lib.hid hn
  clear h hn
  go_enter Tryd.func30, Tryd.ntmps30
  go_wp2
  go_loop [3, 4] (RMostRel l) (fun _ i => n - (intOf i).toNat)
  case atStart => exact ⟨0, by omega, rfl, rfl⟩
  case round =>
    obtain ⟨k, hk, rfl, rfl⟩ := hrel
    have hk' : k ≤ n := by have := HN.out; omega
    by_cases hlt : k < n
    · have hkl : k < l.length := by have := HN.out; omega
      obtain ⟨ad, rfl, _, hcell⟩ := hl.cell (k := k) (by simpa using hkl)
      obtain ⟨x, hx⟩ : ∃ x : Nat, x = l[k] := ⟨_, rfl⟩
      have hcx : w.cell? (ad.add k) = some (.int .u64 (x : Int)) := by rw [hcell, List.getElem_map, hx]; rfl
      have hx64 : x < 2 ^ 64 := by rw [hx]; exact H.out _ (List.getElem_mem hkl)
      have hs : wmost (l.take (k + 1)) = max (wmost (l.take k)) (wbits x) := by rw [List.take_succ_eq_append_getElem hkl, wmost_snoc, hx]
      have hb := Lib.hid (fun w => rbits_any x w hx64)
      have HS := Lib.hid hs
      clear hs hx hcell hx64
      generalize wmost (l.take k) = y at *
      generalize wbits x = z at *
      go_wp2_with (go_at_call 55; refine (hb.out _).mono ?_; rintro e w' ⟨rfl, rfl⟩)
      go_round
      case rel => exact ⟨k + 1, by omega, by go_num, by rw [HS.out]; go_num⟩
      case measure => simp [intOf]; omega
    · obtain rfl : k = n := by omega
      rw [List.take_of_length_le (by have := HN.out; omega)]
      go_wp2
      go_ret
      exact ⟨rfl, rfl⟩
end Go.Proofs.YtchgpgnipmmflaaDoor

/- Contracts of layer 7's reference: Plain, Made, Put. -/







namespace Go.Proofs.YtchgpgnipmmflaaDoor

open Go.RowKit

theorem rplain7_any (x : Int) (s : Bool) (w : World) (h0 : -9223372036854775808 ≤ x) (h1 : x ≤ 9223372036854775807) :
    Calls Tryd.prog 54 #[.int .i64 x, .bool s] w fun e w' => e = .returned (.tuple #[.int .u64 (((eplain x s).getD 0 : Nat) : Int), .bool (eplain x s).isSome]) ∧ w = w' := by
  cases s with
  | true =>
    have hE := Lib.hid (show eplain x true = some (vzig x).toNat by unfold eplain; rw [if_pos rfl])
    have hb := Lib.hid (vzig_bd h0 h1)
    go_enter Tryd.func54, Tryd.ntmps54
    go_wp2_with (go_at_call 57; refine (rzig_any x _ h0 h1).mono ?_; rintro e w' ⟨rfl, rfl⟩)
    go_ret2
    rw [hE.out]
    exact ⟨by rw [Option.getD_some, Option.isSome_some, Int.toNat_of_nonneg hb.out.1]; rfl, rfl⟩
  | false =>
    by_cases hx : 0 ≤ x
    · have hE := Lib.hid (show eplain x false = some x.toNat by unfold eplain; rw [if_neg (by simp), if_pos hx])
      have d : decide (0 ≤ x) = true := decide_eq_true hx
      have hm : ∀ (ts : Array TypeId) (t : TypeId) (W : World), (Builtin.max_ ts t #[.int .i64 x, .int .i64 0]).run Tryd.prog W = .ok (.int .i64 x) W := fun ts t W => by
        rw [run_max_int2]
        congr 2
        split <;> omega
      go_enter Tryd.func54, Tryd.ntmps54
      go_wp2
      go_ret2
      rw [hE.out]
      exact ⟨by rw [Option.getD_some, Option.isSome_some, Int.toNat_of_nonneg hx]; rfl, rfl⟩
    · have hE := Lib.hid (show eplain x false = none by unfold eplain; rw [if_neg (by simp), if_neg hx])
      have d : decide (0 ≤ x) = false := decide_eq_false hx
      have hm : ∀ (ts : Array TypeId) (t : TypeId) (W : World), (Builtin.max_ ts t #[.int .i64 x, .int .i64 0]).run Tryd.prog W = .ok (.int .i64 0) W := fun ts t W => by
        rw [run_max_int2]
        congr 2
        split <;> omega
      go_enter Tryd.func54, Tryd.ntmps54
      go_wp2
      go_ret2
      rw [hE.out]
      exact ⟨rfl, rfl⟩
theorem emade_true (u : Nat) : emade u true = some (vzag (u : Int)) := by unfold emade; rw [if_pos rfl]
theorem emade_low {U : Int} (h0 : 0 ≤ U) (h : U < 9223372036854775808) : emade U.toNat false = some U := by unfold emade; rw [if_neg (by simp), if_pos (by omega), Int.toNat_of_nonneg h0]
theorem emade_high {U : Int} (h : 9223372036854775808 ≤ U) : emade U.toNat false = none := by unfold emade; rw [if_neg (by simp), if_neg (by omega)]
theorem bv_low7 {y : Nat} (h : y < 256) : Value.int .u8 (y : Int) = bv (UInt8.ofNat y) := by unfold bv; congr 1; simp; omega
theorem own_one (w : World) (e : TypeId) (u : Value) {base : Nat} (hb : base ≤ w.heap.size) : (w.alloc (.cells #[u] e)).ownsRow base e 1 (.slice (some ⟨w.heap.size, 0, none⟩) 1 1) 1 [u] :=
  ⟨by simp, .inr ⟨w.heap.size, 1, #[u], rfl, hb, heap_alloc_new w _, Nat.le_refl _, by unfold maxLen; omega, by simp, by simp⟩⟩
theorem eput_times {x t : Int} {s : Bool} (h : t < 3 ∨ 10 < t) : eput x t s = ([], 1) := by unfold eput; rw [if_pos h]
theorem eput_not {x t : Int} {s : Bool} (h : eplain x s = none) : eput x t s = ([], 1) := by unfold eput; split <;> simp [h]
theorem eput_ok {x : Int} {t u : Nat} {s : Bool} (h3 : 3 ≤ t) (h10 : t ≤ 10) (h : eplain x s = some u) : eput x t s = (elay u t, 0) := by
  unfold eput
  rw [if_neg (by omega), h, Int.toNat_natCast]
def RPut7Rel (l : List UInt8) (n u : Nat) (w : World) (v i : Value) (wr : World) : Prop :=
  ∃ (k : Nat) (m : List UInt8), k ≤ n ∧ i = .int .i64 ((k : Int) - 1) ∧ m ++ be k u = l ∧ wr.ownsRow w.heap.size 5 1 v m.length (m.map bv) ∧ Below w.heap.size w wr
end Go.Proofs.YtchgpgnipmmflaaDoor

/- Structs in blocks of their own, and results that lie in cells. Over any program. -/







namespace Go.Proofs.YtchgpgnipmmflaaDoor

open Go.RowKit

/-- Two results: the first lies in a block (a struct), the second in a slot. -/
theorem results_row_tmp {P : Program} {fn : Func} {p u : Tmp} {ty : TypeId} (h : fn.results = #[.cell p ty, .tmp u]) (tmps : Array Value) (w : World) (g : Nat) (t : TypeId) (cs : Array Value) (fr : Nat × Nat) (d : TypeDesc) (v : Value)
    (hp : tmps.getD p undef = .pointer (some ⟨g, 0, none⟩)) (hg : w.heap[g]? = some (.cells cs t fr))
    (hu : P.underlying ty = some d) (hd : (match d with | .struct _ | .array _ _ => true | _ => false) = true) (hi : (P.info? ty).map (·.size) = some cs.size) (hv : tmps.getD u undef = v) :
    (results fn tmps).run P w = .ok (.tuple #[.agg cs, v]) w := by
  rw [results_cell_tmp h, hp, hv]
  simp [asAddr, Result.andThen, run_loadVar_row w g t ty cs fr d hg hu hd hi]
/-- Five results. -/
theorem results_tmp5 {fn : Func} {t u v x y : Tmp} (h : fn.results = #[.tmp t, .tmp u, .tmp v, .tmp x, .tmp y]) (tmps : Array Value) (P : Program) (w : World) :
    (results fn tmps).run P w = .ok (.tuple #[tmps.getD t undef, tmps.getD u undef, tmps.getD v undef, tmps.getD x undef, tmps.getD y undef]) w := by
  simp [results, h]
section

variable {P : Program} {o : Oper} {ρ : Operand → Value} {w : World} {R : Value → World → Prop}
/-- A load of one cell, of a value in many cells, and a slice literal of one value: as operations of a region. -/
theorem gives_load {t : TypeId} {x : Operand} {p : Addr} {v : Value} {d : TypeDesc} (ho : o.op = .load t x) (hx : ρ x = .pointer (some p)) (hu : P.underlying t = some d) (hd : (match d with | .struct _ | .array _ _ => true | _ => false) = false)
    (hc : w.cell? p = some v) (hR : R v w) : Gives P o ρ w R := by
  refine gives_of (v := v) (w' := w) ?_ hR
  have hl : (loadVar t p).run P w = .ok v w := by
    have ha : (isAgg t).run P w = .ok false w := by
      unfold isAgg
      rw [Sem.run_bind, run_underlying hu]
      cases d <;> first | rfl | cases hd
    simp [loadVar, ha, hc]
  simp [execOp, ho, hx, Instr.loadAt, Instr.sureAddr, hl]
theorem gives_load_row {t t' : TypeId} {x : Operand} {g : Nat} {cs : List Value} {d : TypeDesc} (ho : o.op = .load t x) (hx : ρ x = .pointer (some ⟨g, 0, none⟩)) (hu : P.underlying t = some d) (hd : (match d with | .struct _ | .array _ _ => true | _ => false) = true)
    (hi : (P.info? t).map (·.size) = some cs.length) (hr : Row w g t' cs) (hR : R (.agg cs.toArray) w) : Gives P o ρ w R := by
  refine gives_of (v := .agg cs.toArray) (w' := w) ?_ hR
  have hl := run_loadVar_row w g t' t cs.toArray (0, 0) d hr hu hd (by simpa using hi)
  simp [execOp, ho, hx, Instr.loadAt, Instr.sureAddr, hl]
theorem gives_one {t e : TypeId} {bytes : Nat} {z u : Value} (E : Elem P t e bytes z) {x : Operand} (ho : o.op = .buildSlice t 1 #[(0, x)]) (hx : ρ x = u) (hu : u.cells = #[u]) (hR : R (.slice (some ⟨w.heap.size, 0, none⟩) 1 1) (w.alloc (.cells #[u] e))) : Gives P o ρ w R := by
  obtain ⟨i, h1, h2, h3, h4⟩ := E.info
  refine gives_of (v := .slice (some ⟨w.heap.size, 0, none⟩) 1 1) (w' := w.alloc (.cells #[u] e)) ?_ hR
  have h5 : z.cells = #[z] := E.one
  have hf : Instr.fill (fun k => some (k * i.size, i.size)) ((Array.range (1 * i.size)).map (z.cells[· % z.cells.size]!)) [(0, u)] = some #[u] := by
    rw [h3, h5]
    have hr1 : Array.range 1 = #[0] := by rw [Array.range_succ]; rfl
    rw [Nat.one_mul, hr1]
    simp [Instr.fill, hu]
  have := run_buildSlice w t e 1 #[(0, u)] #[u] i z E.under h1 h2 (by rw [h3]; decide) (by rw [h3]; decide) hf
  simp [execOp, ho, hx, this]
/-- append([]T(nil), x...), of bytes: they lie in new memory. -/
theorem gives_copy {t e : TypeId} {z : Value} (E : Elem P t e 1 z) {s x : Operand} {l : List UInt8} {v : Value} (ho : o.op = .call { callee := .builtin .append, args := #[s, x], argTypes := #[t, t] }) (hs : ρ s = .slice none 0 0) (hx : ρ x = v) (hv : IsB l v w)
    (hl : l.length ≤ 1000000) (hR : ∀ v' w', IsB l v' w' → Below w.heap.size w w' → R v' w') : Gives P o ρ w R := by
  obtain ⟨A, c, rfl, h1, h2, h3, h4⟩ := hv
  obtain ⟨i, g1, g2, g3, g4⟩ := E.info
  have g5 : z.cells.size = 1 := by rw [E.one]; rfl
  obtain ⟨v', w', hrun, h5, h6, _⟩ := run_append_lies (P := P) w w.heap.size t o.type e i z 1 E.under g1 g2 g3 g4 g5 (.slice none 0 0) 0 [] (World.ownsRow_nil _ _ _ _) A l.length c h1 (l.map bv) (by simp) h4 (bv_one _) (by unfold maxLen; omega) (by omega) (Nat.le_refl _)
  refine gives_of (v := v') (w' := w') ?_ (hR v' w' (isB_own (by simpa using h5)) ((Below.refl _ w).grown h6 (Nat.le_refl _) fun k hk => by simp [Value.ownBlock] at hk))
  simp [execOp, ho, resolve, invoke, builtin, hs, hx, hrun]
/-- x[k] of a slice: the place. -/
theorem gives_index {t e : TypeId} {bytes : Nat} {zv : Value} (E : Elem P t e bytes zv) {x y : Operand} {ad : Addr} {n c k : Nat} (ho : o.op = .indexAddr t x y) (hx : ρ x = .slice (some ad) n c) (hy : ρ y = .int .i64 (k : Int)) (hk : k < n)
    (hR : R (.pointer (some (ad.add k))) w) : Gives P o ρ w R := by
  refine gives_of (v := .pointer (some (ad.add k))) (w' := w) ?_ hR
  have ht := E.under
  have hs := E.size_ w
  have h0 : (0 : Int) ≤ (k : Int) := by omega
  have h1 : (k : Int) < (n : Int) := by omega
  simp [execOp, ho, hx, hy, go_sem, ht, hs, h0, h1]
/-- x[k] of an array in a block of its own: the place. -/
theorem gives_index_arr {t e : TypeId} {n g k : Nat} {x y : Operand} (ht : P.underlying t = some (.array n e)) (hsz : ∀ W, (sizeOf e).run P W = .ok 1 W) (ho : o.op = .indexAddr t x y) (hx : ρ x = .pointer (some ⟨g, 0, none⟩)) (hy : ρ y = .int .i64 (k : Int)) (hk : k < n)
    (hR : R (.pointer (some ⟨g, k, none⟩)) w) : Gives P o ρ w R := by
  refine gives_of (v := .pointer (some ⟨g, k, none⟩)) (w' := w) ?_ hR
  have ha : (⟨g, 0, none⟩ : Addr).add k = ⟨g, k, none⟩ := by unfold Addr.add; split <;> simp_all
  have h := run_indexAt_array w t ⟨g, 0, none⟩ .i64 (k : Int) (by rw [ht]; simp [Program.arrayLen, Program.elem, ht])
  simp only [Program.arrayLen, Program.elem, ht] at h
  rw [if_pos ⟨by omega, by omega⟩] at h
  simp [execOp, ho, hx, hy, h, hsz, ha]
end

end Go.Proofs.YtchgpgnipmmflaaDoor

/- Contracts of layer 8's reference: Head, Look, Plain, Made, Same. -/









namespace Go.Proofs.YtchgpgnipmmflaaDoor

open Go.RowKit

theorem isU_iff {l : List Nat} {v : Value} {w : World} : IsU l v w ↔ IsV uv l v w := Iff.rfl
theorem own_made (w : World) (e : TypeId) : (w.alloc (.cells #[] e)).ownsRow w.heap.size e 1 (.slice (some ⟨w.heap.size, 0, none⟩) 0 0) 0 [] := World.ownsRow_made w #[] 0 (Nat.le_refl _) (by unfold maxLen; omega) (by simp)
/-- What Look answers: three numbers, bytes, an error. -/
def RetK (w : World) (p : Int × Int × Int × List UInt8 × Int) (e : Ending) (w' : World) : Prop :=
  ∃ v, e = .returned (.tuple #[.int .i64 p.1, .int .i64 p.2.1, .int .i64 p.2.2.1, v, .int .i64 p.2.2.2.2]) ∧ IsB p.2.2.2.1 v w' ∧ Below w.heap.size w w'
theorem dlook_short {l : List UInt8} (h : l.length < 2) : dlook l = (0, 0, 0, [], 2) := by unfold dlook; rw [if_pos h]
theorem dlook_long {l : List UInt8} {X : Nat} (h : 2 ≤ l.length) (hX : X = 256 * l[0].toNat + l[1].toNat) : dlook l = (((X / 16384 : Nat) : Int), ((X / 512 % 32 : Nat) : Int), ((X % 512 + 1 : Nat) : Int), l.drop 2, 0) := by
  unfold dlook
  rw [if_neg (by omega), (bval_two h).1, ← hX]
set_option maxHeartbeats 2000000 in
set_option maxRecDepth 100000 in
theorem rlook8_any (l : List UInt8) (v : Value) (w : World) (hv : IsB l v w) (hb : l.length ≤ 1000000) :
    Calls Tryd.prog 39 #[v] w (RetK w (dlook l)) := by
  obtain ⟨A, c, rfl, hA, hnc, hcm, hl⟩ := hv
  obtain ⟨n, hn⟩ : ∃ n, n = l.length := ⟨_, rfl⟩
  rw [← hn] at hA hnc hb ⊢
  have hci : (c : Int) ≤ 9223372036854775807 := by unfold maxLen at hcm; omega
  by_cases h2 : n < 2
  · have hE := Lib.hid (dlook_short (l := l) (by omega))
    have d1 : decide ((n : Int) < 2) = true := decide_eq_true (by omega)
    clear hn hl hcm hA hnc
    go_enter Tryd.func39, Tryd.ntmps39
    go_wp2
    refine bodyPost_ret (results_tmp5 rfl _ _ _) rfl ?_
    rw [hE.out]
    exact ⟨_, rfl, isB_nil _, Below.refl _ _⟩
  · have hl2 : 2 ≤ l.length := by omega
    have d1 : decide ((n : Int) < 2) = false := decide_eq_false (by omega)
    obtain ⟨ad, rfl, _, hcell0⟩ := hl.cell (k := 0) (by rw [List.length_map]; omega)
    obtain ⟨_, hAd, _, hcell1⟩ := hl.cell (k := 1) (by rw [List.length_map]; omega)
    injection hAd with hAd
    subst hAd
    obtain ⟨x, hx⟩ : ∃ x : Nat, x = l[0].toNat := ⟨_, rfl⟩
    obtain ⟨y, hy⟩ : ∃ y : Nat, y = l[1].toNat := ⟨_, rfl⟩
    have hx8 : x < 256 := by rw [hx]; exact UInt8.toNat_lt _
    have hy8 : y < 256 := by rw [hy]; exact UInt8.toNat_lt _
    have hc0 : w.cell? ad = some (.int .u8 (x : Int)) := by
      have e : ad.add 0 = ad := by simp [Addr.add]
      rw [e] at hcell0
      rw [hcell0, List.getElem_map, hx]; rfl
    have hc1 : w.cell? ⟨ad.block, ad.off + 1, none⟩ = some (.int .u8 (y : Int)) := by
      have e : ad.add 1 = ⟨ad.block, ad.off + 1, none⟩ := by simp [Addr.add]
      rw [e] at hcell1
      rw [hcell1, List.getElem_map, hy]; rfl
    obtain ⟨X, hX⟩ : ∃ X, X = 256 * x + y := ⟨_, rfl⟩
    have hXb : X < 65536 := by omega
    have hE := Lib.hid (dlook_long (l := l) (X := X) hl2 (by rw [hX, hx, hy]))
    have hn0 : (0 : Int) < (n : Int) := by omega
    have hn1 : (1 : Int) < (n : Int) := by omega
    have HX := Lib.hid (show (256 * (x : Int) + (y : Int)) / 16384 = ((X / 16384 : Nat) : Int) ∧ (256 * (x : Int) + (y : Int)) / 512 % 32 = ((X / 512 % 32 : Nat) : Int) ∧ (256 * (x : Int) + (y : Int)) % 512 + 1 = ((X % 512 + 1 : Nat) : Int) from ⟨by omega, by omega, by omega⟩)
    have HN := Lib.hid hn
    obtain ⟨v6, hv6, A6, c6, e6, hA6, hc6, hm6, hl6⟩ := from_named (P := Tryd.prog) (w := w) elemB (k := 2) (by omega) hnc hcm hn.symm hl hA
    have hpl : (l.drop 2).length = n - 2 := by rw [List.length_drop]; omega
    have hpm : ((l.drop 2).map bv).length = n - 2 := by rw [List.length_map]; exact hpl
    have HPM := Lib.hid hpm
    rw [hpl] at e6 hA6
    obtain ⟨N, hN⟩ : ∃ N, N = n - 2 := ⟨_, rfl⟩
    rw [← hN] at e6 hA6 HPM
    have hNb : N ≤ 1000000 := by omega
    subst e6
    clear hN
    have hsl : ∀ W, (Instr.sliceAt 32 (.slice (some ad) n c) (some (.int .i64 2)) none none).run Tryd.prog W = .ok (.slice A6 N c6) W := hv6
    clear hn hx hy hX hcell0 hcell1 hl hv6 hpl hpm hc6 hm6
    go_enter Tryd.func39, Tryd.ntmps39
    go_wp2
    go_quiet (fail)
    have hown0 : ((w.drewN nq).alloc (.cells #[] 5)).ownsRow w.heap.size 5 1 (.slice (some ⟨w.heap.size, 0, none⟩) 0 0) 0 [] := own_made (w.drewN nq) 5
    have hb0 : Below w.heap.size w ((w.drewN nq).alloc (.cells #[] 5)) := (below_drewN (Below.refl _ _) nq).alloc (Nat.le_refl _) _
    have hz0 := hb0.size
    have hl0 := hl6.below hb0
    go_wp2_with (at_builtin; refine wpList_join elemB rfl _ _ rfl w.heap.size _ _ _ _ _ _ ((l.drop 2).map bv) w rfl rfl hA6 HPM.out hl0 (bv_one _) hown0 hb0 hz0 (by omega) (by omega) ?_)
    intro v7 w7 hown7 hb7 _ _
    have HI7 := Lib.hid (show IsB (l.drop 2) v7 w7 from isB_own (n := N) (by simpa using hown7))
    have HB7 := Lib.hid hb7
    clear hown7 hb7 hown0 hb0 hz0 hl0
    go_wp2
    refine bodyPost_ret (results_tmp5 rfl _ _ _) rfl ?_
    rw [hE.out]
    refine ⟨_, ?_, HI7.out, HB7.out⟩
    rw [← HX.out.1, ← HX.out.2.1, ← HX.out.2.2]
    rfl

/-- A row of values and an error that a call answers. -/
def RetV {α : Type} (f : α → Value) (w : World) (p : List α × Int) (e : Ending) (w' : World) : Prop := ∃ u, e = .returned (.tuple #[u, .int .i64 p.2]) ∧ IsV f p.1 u w' ∧ Below w.heap.size w w'
theorem RetV.nil {α : Type} {f : α → Value} {w w' : World} (n : Int) (hb : Below w.heap.size w w') : RetV f w ([], n) (.returned (.tuple #[.slice none 0 0, .int .i64 n])) w' := ⟨_, rfl, isV_nil _ _, hb⟩
theorem omap_take {α β : Type} {f : α → Option β} {l : List α} {k : Nat} {acc : List β} {y : β} (hk : k < l.length) (h : omap f (l.take k) = some acc) (hy : f l[k] = some y) : omap f (l.take (k + 1)) = some (acc ++ [y]) := by
  rw [List.take_succ_eq_append_getElem hk, omap_snoc, h, hy]
def OmapRel {α β : Type} (f : α → Option β) (enc : β → Value) (t : TypeId) (l : List α) (w : World) (v i : Value) (wr : World) : Prop :=
  ∃ (k : Nat) (acc : List β), k ≤ l.length ∧ i = .int .i64 (k : Int) ∧ omap f (l.take k) = some acc ∧ wr.ownsRow w.heap.size t 1 v acc.length (acc.map enc) ∧ Below w.heap.size w wr
set_option maxHeartbeats 2000000 in
set_option maxRecDepth 100000 in
theorem rplain8_any (l : List Int) (v : Value) (s : Bool) (w : World) (hv : IsV iv l v w) (hl : ∀ x ∈ l, inInt x) (hb : l.length ≤ 1000000) :
    Calls Tryd.prog 28 #[v, .bool s] w (RetV uv w (dplainE l s)) := by
  obtain ⟨A, c, rfl, hA, hnc, hcm, hlw⟩ := hv
  obtain ⟨n, hn⟩ : ∃ n, n = l.length := ⟨_, rfl⟩
  rw [← hn] at hA hnc hb ⊢
  have hst : OmapRel (eplain · s) uv 23 l w (.slice (some ⟨w.heap.size, 0, none⟩) 0 0) (.int .i64 0) (w.alloc (.cells #[] 23)) := ⟨0, [], by omega, rfl, rfl, own_made w _, (Below.refl _ _).alloc (Nat.le_refl _) _⟩
  have HN := Lib.hid hn
  have HL := Lib.hid hlw
  have HI := Lib.hid hl
  clear hn hlw hl hcm hA
  go_enter Tryd.func28, Tryd.ntmps28
  go_wp2
  go_loopw [6, 7] (OmapRel (eplain · s) uv 23 l w) (fun _ i _ => n - (intOf i).toNat)
  case atStart => exact hst
  case round =>
    obtain ⟨k, acc, hk, rfl, hacc, hown, hbw⟩ := hrel
    have hz := hbw.size
    have hal : acc.length = k := by rw [omap_len hacc, List.length_take]; omega
    have HACC := Lib.hid hacc
    have HAL := Lib.hid hal
    have hk' : k ≤ n := by have := HN.out; omega
    clear hst hacc
    rw [hal] at hown
    clear hal
    by_cases hlt : k < n
    · have hkl : k < l.length := by have := HN.out; omega
      have hlti : (k : Int) < (n : Int) := by omega
      obtain ⟨ad, rfl, _, hcell⟩ := (HL.out.below hbw).cell (k := k) (by rw [List.length_map]; exact hkl)
      obtain ⟨x, hx⟩ : ∃ x, x = l[k] := ⟨_, rfl⟩
      have hcx : wr.cell? (ad.add k) = some (.int .i64 x) := by rw [hcell, List.getElem_map, hx]; rfl
      have hxb : inInt x := by rw [hx]; exact HI.out _ (List.getElem_mem hkl)
      have HP := Lib.hid (rplain7_any x s wr hxb.1 hxb.2)
      obtain ⟨u, hu⟩ : ∃ u, u = (eplain x s).getD 0 := ⟨_, rfl⟩
      obtain ⟨ok, hok⟩ : ∃ ok, ok = (eplain x s).isSome := ⟨_, rfl⟩
      rw [← hu, ← hok] at HP
      have HX := Lib.hid hx
      have HU := Lib.hid hu
      have HOK := Lib.hid hok
      clear hx hu hok hcell hxb
      cases ok with
      | false =>
        have hE : Hid (dplainE l s = ([], 1)) := Lib.hid (by
          have h0 : eplain x s = none := by simpa using HOK.out.symm
          have h1 : dplain l s = none := omap_none (x := x) (by rw [HX.out]; exact List.getElem_mem hkl) h0
          unfold dplainE; rw [h1])
        go_wp2_with (go_at_call 54; refine HP.out.mono ?_; rintro e w' ⟨rfl, rfl⟩)
        go_ret2
        rw [hE.out]
        exact RetV.nil _ hbw
      | true =>
        have hnext : Hid (omap (eplain · s) (l.take (k + 1)) = some (acc ++ [u])) := Lib.hid (omap_take hkl HACC.out (by
          rw [← HX.out]
          have h0 := HOK.out
          have h1 := HU.out
          cases he : eplain x s with
          | none => rw [he] at h0; simp at h0
          | some z => rw [he] at h1; simp at h1; rw [h1]))
        go_wp2_with (first | (go_at_call 54; refine HP.out.mono ?_; rintro e w' ⟨rfl, rfl⟩) | (at_builtin; refine wpList_push elemU rfl _ _ rfl w.heap.size _ _ _ (uv u) wr w rfl rfl rfl rfl hown hbw hz (by omega) (by omega) ?_))
        intro v5 w5 hown5 hb5 _ _
        have hown6 : w5.ownsRow w.heap.size 23 1 v5 (acc ++ [u]).length ((acc ++ [u]).map uv) := by
          rw [List.length_append, List.length_singleton, List.map_append, List.map_singleton, HAL.out]
          exact hown5
        clear hown5 hown
        go_wp2
        go_roundw
        case rel => exact ⟨k + 1, _, by have := HN.out; omega, by go_num, hnext.out, hown6, hb5⟩
        case measure => simp [intOf]; omega
    · obtain rfl : k = n := by omega
      have hlti : ¬ (k : Int) < (k : Int) := by omega
      have hE : Hid (dplainE l s = (acc, 0)) := Lib.hid (by
        have h1 := HACC.out
        rw [List.take_of_length_le (by have := HN.out; omega)] at h1
        unfold dplainE dplain; rw [h1])
      go_wp2
      go_ret2
      rw [hE.out]
      exact ⟨_, rfl, isV_own hown, hbw⟩
def SameRelI (l m : List Int) (w : World) (i : Value) (wr : World) : Prop := ∃ k : Nat, i = .int .i64 (k : Int) ∧ k ≤ l.length ∧ l.take k = m.take k ∧ Below w.heap.size w wr
set_option maxHeartbeats 1000000 in
theorem same8_any (A B : Option Addr) (n c n' c' : Nat) (l m : List Int) (w : World) (hn : l.length = n) (hn' : m.length = n') (hb : n ≤ 1000000) (hb' : n' ≤ 1000000) (hl : Lies w A (l.map iv)) (hm : Lies w B (m.map iv)) :
    Calls Tryd.prog 16 #[.slice A n c, .slice B n' c'] w fun e w' => e = .returned (.bool (l == m)) ∧ Below w.heap.size w w' := by
  have HN := Lib.hid hn
  have HN' := Lib.hid hn'
  clear hn hn'
  by_cases hnn : n = n'
  · subst hnn
    have d1 : ((n : Int) != (n : Int)) = false := by simp
    go_enter Tryd.func16, Tryd.ntmps16
    go_wp2
    go_loopw [5] (SameRelI l m w) (fun i _ => n - (intOf i).toNat)
    case atStart => exact ⟨0, rfl, by omega, by simp, Below.refl _ _⟩
    case round =>
      obtain ⟨k, rfl, hk, he, hbr⟩ := hrel
      have HE := Lib.hid he
      clear he
      have hk' : k ≤ n := by have := HN.out; omega
      by_cases hlt : k < n
      · have hkl : k < l.length := by have := HN.out; omega
        have hkm : k < m.length := by have := HN'.out; omega
        obtain ⟨ad, rfl, _, hcell⟩ := (hl.below hbr).cell (k := k) (by simpa using hkl)
        obtain ⟨ad', rfl, _, hcell'⟩ := (hm.below hbr).cell (k := k) (by simpa using hkm)
        obtain ⟨x, hx⟩ : ∃ x : Int, x = l[k] := ⟨_, rfl⟩
        obtain ⟨y, hy⟩ : ∃ y : Int, y = m[k] := ⟨_, rfl⟩
        have hcx : wr.cell? (ad.add k) = some (.int .i64 x) := by rw [hcell, List.getElem_map, hx]; rfl
        have hcy : wr.cell? (ad'.add k) = some (.int .i64 y) := by rw [hcell', List.getElem_map, hy]; rfl
        have HX := Lib.hid hx
        have HY := Lib.hid hy
        clear hx hy hcell hcell'
        have hlti : (k : Int) < (n : Int) := by omega
        by_cases hxy : x = y
        · subst hxy
          have d2 : (x != x) = false := by simp
          go_wp2
          go_quiet (fail)
          go_wp2
          go_roundw
          case rel =>
            refine ⟨k + 1, by go_num, by omega, ?_, below_drewN hbr _⟩
            rw [List.take_succ_eq_append_getElem hkl, List.take_succ_eq_append_getElem hkm, HE.out, ← HX.out, ← HY.out]
          case measure => simp [intOf]; omega
        · have d2 : (x != y) = true := by simpa using hxy
          have hne : (l == m) = false := by
            rw [beq_eq_false_iff_ne]
            intro h
            subst h
            exact hxy (by rw [HX.out, HY.out])
          go_wp2
          go_quiet (fail)
          go_wp2
          go_ret
          exact ⟨ret_bool hne.symm, below_drewN hbr _⟩
      · obtain rfl : k = n := by omega
        have heq : (l == m) = true := by
          rw [beq_iff_eq]
          have h1 := HE.out
          rw [List.take_of_length_le (by have := HN.out; omega), List.take_of_length_le (by have := HN'.out; omega)] at h1
          exact h1
        have HQ := Lib.hid heq
        clear heq
        go_wp2
        go_ret
        exact ⟨ret_bool HQ.out.symm, hbr⟩
  · have d1 : ((n : Int) != (n' : Int)) = true := by simpa using (fun h => hnn (by omega))
    have hne : (l == m) = false := by
      rw [beq_eq_false_iff_ne]
      intro h
      subst h
      exact hnn (by rw [← HN.out, ← HN'.out])
    have HQ := Lib.hid hne
    clear hne
    go_enter Tryd.func16, Tryd.ntmps16
    go_wp2
    go_ret
    exact ⟨ret_bool HQ.out.symm, Below.refl _ _⟩
theorem same8_is {l m : List Int} {u v : Value} {w : World} (hl : IsV iv l u w) (hm : IsV iv m v w) (h1 : l.length ≤ 1000000) (h2 : m.length ≤ 1000000) :
    Calls Tryd.prog 16 #[u, v] w fun e w' => e = .returned (.bool (l == m)) ∧ Below w.heap.size w w' := by
  obtain ⟨A, c, rfl, _, _, _, h3⟩ := hl
  obtain ⟨B, c', rfl, _, _, _, h4⟩ := hm
  exact same8_any A B _ c _ c' l m w rfl rfl h1 h2 h3 h4
theorem dhead_no {k c m : Int} (h : ¬ (0 ≤ k ∧ k ≤ 3 ∧ 0 ≤ c ∧ c ≤ 31 ∧ 1 ≤ m ∧ m ≤ 512)) : dhead k c m = [] := by unfold dhead; rw [if_neg h]
theorem dheadN_two {k c m X h y : Nat} (hX : X = 16384 * k + 512 * c + (m - 1)) (hh : h = X / 256) (hy : y = X % 256) (hb : X < 65536) : (dheadN k c m).map bv = [.int .u8 (h : Int), .int .u8 (y : Int)] := by
  have e : dheadN k c m = [UInt8.ofNat h, UInt8.ofNat y] := by
    unfold dheadN
    rw [← hX]
    symm
    refine eq_be rfl ?_
    have h1 : (UInt8.ofNat h).toNat = h := by rw [UInt8.toNat_ofNat']; omega
    have h2 : (UInt8.ofNat y).toNat = y := by rw [UInt8.toNat_ofNat']; omega
    simp only [bval, List.length_cons, List.length_nil, h1, h2]
    omega
  rw [e]
  have h1 : (UInt8.ofNat h).toNat = h := by rw [UInt8.toNat_ofNat']; omega
  have h2 : (UInt8.ofNat y).toNat = y := by rw [UInt8.toNat_ofNat']; omega
  simp only [List.map_cons, List.map_nil, bv, h1, h2]
/-- Bytes in a row of the call's own. -/
def RetH (w : World) (l : List UInt8) (e : Ending) (w' : World) : Prop := ∃ v, e = .returned v ∧ w'.ownsRow w.heap.size 5 1 v l.length (l.map bv) ∧ Below w.heap.size w w'
theorem own_new (w : World) (e : TypeId) (xs : List Value) (n : Nat) (hn : xs.length = n) (hb : n ≤ 1000000) : (w.alloc (.cells xs.toArray e)).ownsRow w.heap.size e 1 (.slice (some ⟨w.heap.size, 0, none⟩) n n) n xs :=
  ⟨by simpa using hn, .inr ⟨w.heap.size, n, xs.toArray, rfl, Nat.le_refl _, heap_alloc_new w _, Nat.le_refl _, by unfold maxLen; omega, by simp [hn], by subst hn; simp⟩⟩
set_option maxHeartbeats 2000000 in
set_option maxRecDepth 100000 in
theorem rhead8_any (k c m : Int) (w : World) : Calls Tryd.prog 33 #[.int .i64 k, .int .i64 c, .int .i64 m] w (RetH w (dhead k c m)) := by
  by_cases h0 : k < 0
  · have d0 : decide (k < 0) = true := decide_eq_true h0
    have hE := Lib.hid (dhead_no (k := k) (c := c) (m := m) (by omega))
    go_enter Tryd.func33, Tryd.ntmps33
    go_wp2
    go_ret
    rw [hE.out]
    exact ⟨_, rfl, World.ownsRow_nil _ _ _ _, Below.refl _ _⟩
  · have d0 : decide (k < 0) = false := decide_eq_false h0
    by_cases h1 : 3 < k
    · have d1 : decide ((3 : Int) < k) = true := decide_eq_true h1
      have hE := Lib.hid (dhead_no (k := k) (c := c) (m := m) (by omega))
      go_enter Tryd.func33, Tryd.ntmps33
      go_wp2
      go_ret
      rw [hE.out]
      exact ⟨_, rfl, World.ownsRow_nil _ _ _ _, Below.refl _ _⟩
    · have d1 : decide ((3 : Int) < k) = false := decide_eq_false h1
      by_cases h2 : c < 0
      · have d2 : decide (c < 0) = true := decide_eq_true h2
        have hE := Lib.hid (dhead_no (k := k) (c := c) (m := m) (by omega))
        go_enter Tryd.func33, Tryd.ntmps33
        go_wp2
        go_ret
        rw [hE.out]
        exact ⟨_, rfl, World.ownsRow_nil _ _ _ _, Below.refl _ _⟩
      · have d2 : decide (c < 0) = false := decide_eq_false h2
        by_cases h3 : 31 < c
        · have d3 : decide ((31 : Int) < c) = true := decide_eq_true h3
          have hE := Lib.hid (dhead_no (k := k) (c := c) (m := m) (by omega))
          go_enter Tryd.func33, Tryd.ntmps33
          go_wp2
          go_ret
          rw [hE.out]
          exact ⟨_, rfl, World.ownsRow_nil _ _ _ _, Below.refl _ _⟩
        · have d3 : decide ((31 : Int) < c) = false := decide_eq_false h3
          by_cases h4 : m < 1
          · have d4 : decide (m < 1) = true := decide_eq_true h4
            have hE := Lib.hid (dhead_no (k := k) (c := c) (m := m) (by omega))
            go_enter Tryd.func33, Tryd.ntmps33
            go_wp2
            go_ret
            rw [hE.out]
            exact ⟨_, rfl, World.ownsRow_nil _ _ _ _, Below.refl _ _⟩
          · have d4 : decide (m < 1) = false := decide_eq_false h4
            by_cases h5 : 512 < m
            · have d5 : decide ((512 : Int) < m) = true := decide_eq_true h5
              have hE := Lib.hid (dhead_no (k := k) (c := c) (m := m) (by omega))
              go_enter Tryd.func33, Tryd.ntmps33
              go_wp2
              go_ret
              rw [hE.out]
              exact ⟨_, rfl, World.ownsRow_nil _ _ _ _, Below.refl _ _⟩
            · have d5 : decide ((512 : Int) < m) = false := decide_eq_false h5
              obtain ⟨K, rfl⟩ := Int.eq_ofNat_of_zero_le (show 0 ≤ k by omega)
              obtain ⟨C, rfl⟩ := Int.eq_ofNat_of_zero_le (show 0 ≤ c by omega)
              obtain ⟨M, rfl⟩ := Int.eq_ofNat_of_zero_le (show 0 ≤ m by omega)
              obtain ⟨X, hX⟩ : ∃ X, X = 16384 * K + 512 * C + (M - 1) := ⟨_, rfl⟩
              obtain ⟨h, hh⟩ : ∃ h, h = X / 256 := ⟨_, rfl⟩
              obtain ⟨y, hy⟩ : ∃ y, y = X % 256 := ⟨_, rfl⟩
              have hXb : X < 65536 := by omega
              have hXi : 16384 * (K : Int) + 512 * (C : Int) + (M : Int) - 1 = (X : Int) := by omega
              have hhi : (X : Int) / 256 = (h : Int) := by omega
              have hyi : (X : Int) % 256 = (y : Int) := by omega
              have hhw : IntKind.u8.wrap (h : Int) = (h : Int) := by rw [IntKind.wrap_u8]; omega
              have hyw : IntKind.u8.wrap (y : Int) = (y : Int) := by rw [IntKind.wrap_u8]; omega
              have hE := Lib.hid (dhead_in (k := K) (c := C) (m := M) (by omega) (by omega) (by omega) (by omega))
              have hT := Lib.hid (dheadN_two hX hh hy hXb)
              clear hX hh hy
              go_enter Tryd.func33, Tryd.ntmps33
              go_wp2
              go_ret
              rw [hE.out]
              refine ⟨_, rfl, ?_, (Below.refl _ _).alloc (Nat.le_refl _) _⟩
              have h9 := own_new w 5 ((dheadN K C M).map bv) 2 (by rw [List.length_map]; exact dheadN_len _ _ _) (by omega)
              rw [hT.out] at h9
              rw [hT.out, dheadN_len]
              exact h9
end Go.Proofs.YtchgpgnipmmflaaDoor

/- Contracts of layer 9's reference: Diff, Step. -/





namespace Go.Proofs.YtchgpgnipmmflaaDoor

open Go.RowKit

theorem wrap_sub {a b d : Int} (h : d = a - b) (h0 : 0 ≤ d) (h1 : d < 18446744073709551616) : IntKind.u64.wrap (IntKind.u64.wrap a - IntKind.u64.wrap b) = d := by
  rw [IntKind.wrap_u64, IntKind.wrap_u64, IntKind.wrap_u64]; omega
/-- What Diff answers. -/
def RetD (p : Nat × Bool × Bool) (e : Ending) : Prop := e = .returned (.tuple #[.int .u64 (p.1 : Int), .bool p.2.1, .bool p.2.2])
theorem rdiff9_any (a b : Int) (w : World) (ha : inInt a) (hb : inInt b) : Calls Tryd.prog 10 #[.int .i64 a, .int .i64 b] w fun e w' => RetD (gdiff a b) e ∧ w = w' := by
  unfold inInt at ha hb
  by_cases h : b < a
  · obtain ⟨d, hd⟩ : ∃ d, d = a - b := ⟨_, rfl⟩
    have hw := wrap_sub hd (by omega) (by omega)
    by_cases h2 : 9223372036854775808 ≤ d
    · have hE : Hid (gdiff a b = (0, false, false)) := Lib.hid (by unfold gdiff; rw [if_pos h, if_pos (by omega)])
      have d1 : decide (b < a) = true := decide_eq_true h
      have d2 : decide ((9223372036854775808 : Int) ≤ d) = true := decide_eq_true h2
      clear hd ha hb
      go_enter Tryd.func10, Tryd.ntmps10
      go_wp2
      refine bodyPost_ret (results_tmp3 rfl _ _ _) rfl ?_
      rw [hE.out]
      exact ⟨rfl, rfl⟩
    · have hE : Hid (gdiff a b = (d.toNat, true, true)) := Lib.hid (by unfold gdiff; rw [if_pos h, if_neg (by omega), hd])
      have d1 : decide (b < a) = true := decide_eq_true h
      have d2 : decide ((9223372036854775808 : Int) ≤ d) = false := decide_eq_false h2
      have HD := Lib.hid (show ((d.toNat : Nat) : Int) = d by omega)
      clear hd ha hb
      go_enter Tryd.func10, Tryd.ntmps10
      go_wp2
      refine bodyPost_ret (results_tmp3 rfl _ _ _) rfl ?_
      rw [hE.out]
      unfold RetD
      dsimp only
      rw [HD.out]
      exact ⟨rfl, rfl⟩
  · obtain ⟨d, hd⟩ : ∃ d, d = b - a := ⟨_, rfl⟩
    have hw := wrap_sub hd (by omega) (by omega)
    by_cases h2 : 9223372036854775808 ≤ d
    · have hE : Hid (gdiff a b = (0, false, false)) := Lib.hid (by unfold gdiff; rw [if_neg h, if_pos (by omega)])
      have d1 : decide (b < a) = false := decide_eq_false h
      have d2 : decide ((9223372036854775808 : Int) ≤ d) = true := decide_eq_true h2
      clear hd ha hb
      go_enter Tryd.func10, Tryd.ntmps10
      go_wp2
      refine bodyPost_ret (results_tmp3 rfl _ _ _) rfl ?_
      rw [hE.out]
      exact ⟨rfl, rfl⟩
    · have hE : Hid (gdiff a b = (d.toNat, false, true)) := Lib.hid (by unfold gdiff; rw [if_neg h, if_neg (by omega), hd])
      have d1 : decide (b < a) = false := decide_eq_false h
      have d2 : decide ((9223372036854775808 : Int) ≤ d) = false := decide_eq_false h2
      have HD := Lib.hid (show ((d.toNat : Nat) : Int) = d by omega)
      clear hd ha hb
      go_enter Tryd.func10, Tryd.ntmps10
      go_wp2
      refine bodyPost_ret (results_tmp3 rfl _ _ _) rfl ?_
      rw [hE.out]
      unfold RetD
      dsimp only
      rw [HD.out]
      exact ⟨rfl, rfl⟩
/-- What Step answers. -/
def RetG (p : Int × Bool) (e : Ending) : Prop := e = .returned (.tuple #[.int .i64 p.1, .bool p.2])
theorem rstep9_any (a U : Int) (f : Bool) (w : World) (ha : inInt a) (h0 : 0 ≤ U) (h1 : U < 18446744073709551616) : Calls Tryd.prog 12 #[.int .i64 a, .int .u64 U, .bool f] w fun e w' => RetG (gstep a U.toNat f) e ∧ w = w' := by
  unfold inInt at ha
  have hU : ((U.toNat : Nat) : Int) = U := by omega
  by_cases h2 : 9223372036854775808 ≤ U
  · have hE : Hid (gstep a U.toNat f = (0, false)) := Lib.hid (by unfold gstep; rw [hU, if_pos h2])
    have d2 : decide ((9223372036854775808 : Int) ≤ U) = true := decide_eq_true h2
    clear hU
    go_enter Tryd.func12, Tryd.ntmps12
    go_wp2
    go_ret2
    rw [hE.out]
    exact ⟨rfl, rfl⟩
  · have d2 : decide ((9223372036854775808 : Int) ≤ U) = false := decide_eq_false h2
    have hw1 : IntKind.i64.wrap U = U := by rw [IntKind.wrap_i64]; omega
    cases f with
    | true =>
      have hw2 : IntKind.i64.wrap (-9223372036854775808 + U) = -9223372036854775808 + U := by rw [IntKind.wrap_i64]; omega
      by_cases h3 : a < -9223372036854775808 + U
      · have hE : Hid (gstep a U.toNat true = (0, false)) := Lib.hid (by unfold gstep; rw [hU, if_neg h2, if_pos rfl, if_pos h3])
        have d3 : decide (a < -9223372036854775808 + U) = true := decide_eq_true h3
        clear hU
        go_enter Tryd.func12, Tryd.ntmps12
        go_wp2
        go_ret2
        rw [hE.out]
        exact ⟨rfl, rfl⟩
      · have hE : Hid (gstep a U.toNat true = (a - U, true)) := Lib.hid (by unfold gstep; rw [hU, if_neg h2, if_pos rfl, if_neg h3])
        have d3 : decide (a < -9223372036854775808 + U) = false := decide_eq_false h3
        have hw3 : IntKind.i64.wrap (a - U) = a - U := by rw [IntKind.wrap_i64]; omega
        clear hU
        go_enter Tryd.func12, Tryd.ntmps12
        go_wp2
        go_ret2
        rw [hE.out]
        exact ⟨rfl, rfl⟩
    | false =>
      have hw2 : IntKind.i64.wrap (9223372036854775807 - U) = 9223372036854775807 - U := by rw [IntKind.wrap_i64]; omega
      by_cases h3 : 9223372036854775807 - U < a
      · have hE : Hid (gstep a U.toNat false = (0, false)) := Lib.hid (by unfold gstep; rw [hU, if_neg h2, if_neg (by decide), if_pos h3])
        have d3 : decide (9223372036854775807 - U < a) = true := decide_eq_true h3
        clear hU
        go_enter Tryd.func12, Tryd.ntmps12
        go_wp2
        go_ret2
        rw [hE.out]
        exact ⟨rfl, rfl⟩
      · have hE : Hid (gstep a U.toNat false = (a + U, true)) := Lib.hid (by unfold gstep; rw [hU, if_neg h2, if_neg (by decide), if_neg h3])
        have d3 : decide (9223372036854775807 - U < a) = false := decide_eq_false h3
        have hw3 : IntKind.i64.wrap (a + U) = a + U := by rw [IntKind.wrap_i64]; omega
        clear hU
        go_enter Tryd.func12, Tryd.ntmps12
        go_wp2
        go_ret2
        rw [hE.out]
        exact ⟨rfl, rfl⟩
end Go.Proofs.YtchgpgnipmmflaaDoor

/- Slices of values of several cells each (structs): f tells a value's cells, m how many. Over any program. -/



namespace Go.Proofs.YtchgpgnipmmflaaDoor

open Go.RowKit

theorem flat_at {α : Type} {f : α → List Value} {m : Nat} (hf : ∀ x, (f x).length = m) : ∀ (l : List α) (k : Nat) (hk : k < l.length) (i : Nat), i < m → (l.flatMap f)[k * m + i]? = (f l[k])[i]?
  | [], _, hk, _, _ => absurd hk (Nat.not_lt_zero _)
  | x :: l, 0, _, i, hi => by
    rw [List.flatMap_cons, Nat.zero_mul, Nat.zero_add, List.getElem?_append_left (by rw [hf]; exact hi)]
    rfl
  | x :: l, k + 1, hk, i, hi => by
    rw [List.flatMap_cons, Nat.succ_mul, List.getElem?_append_right (by rw [hf]; omega), hf, show k * m + m + i - m = k * m + i by omega]
    exact flat_at hf l k (by simpa using hk) i hi
theorem flat_take {α : Type} {f : α → List Value} {m : Nat} (hf : ∀ x, (f x).length = m) : ∀ (l : List α) (k : Nat), (l.take k).flatMap f = (l.flatMap f).take (k * m)
  | [], k => by simp
  | x :: l, 0 => by simp
  | x :: l, k + 1 => by
    rw [List.take_succ_cons, List.flatMap_cons, List.flatMap_cons, flat_take hf l k, Nat.succ_mul, List.take_append, hf, show k * m + m - m = k * m by omega, List.take_of_length_le (l := f x) (by rw [hf]; omega)]
theorem flat_len {α : Type} {f : α → List Value} {m : Nat} (hf : ∀ x, (f x).length = m) : ∀ l : List α, (l.flatMap f).length = l.length * m
  | [] => by simp
  | x :: l => by rw [List.flatMap_cons, List.length_append, hf, flat_len hf l, List.length_cons, Nat.succ_mul, Nat.add_comm]
/-- The slice v holds l, each of whose values takes up the cells f. -/
def IsR {α : Type} (f : α → List Value) (l : List α) (v : Value) (w : World) : Prop := ∃ A c, v = .slice A l.length c ∧ (A = none → l.length = 0) ∧ l.length ≤ c ∧ c ≤ maxLen ∧ Lies w A (l.flatMap f)
section

variable {α : Type} {f : α → List Value} {l : List α} {v : Value} {w w' : World} {A : Option Addr} {n c m : Nat}
theorem IsR.below (h : IsR f l v w) (hb : Below w.heap.size w w') : IsR f l v w' := by
  obtain ⟨A, c, h1, h2, h3, h4, h5⟩ := h
  exact ⟨A, c, h1, h2, h3, h4, h5.below hb⟩
theorem IsR.parts (h : IsR f l (.slice A n c) w) : l.length = n ∧ (A = none → n = 0) ∧ n ≤ c ∧ c ≤ maxLen ∧ Lies w A (l.flatMap f) := by
  obtain ⟨A', c', h1, h2, h3, h4, h5⟩ := h
  injection h1 with e1 e2 e3
  subst e1 e2 e3
  exact ⟨rfl, h2, h3, h4, h5⟩
theorem IsR.shape (h : IsR f l v w) : ∃ A n c, v = .slice A n c := by
  obtain ⟨A', c', h1, _⟩ := h
  exact ⟨_, _, _, h1⟩
theorem IsR.at (h : IsR f l (.slice A n c) w) (hf : ∀ x, (f x).length = m) (hm : 0 < m) {k : Nat} (hk : k < l.length) : ∃ ad, A = some ad ∧ ad.block < w.heap.size ∧ ∀ i, i < m → w.cell? (ad.add (k * m + i)) = (f l[k])[i]? := by
  obtain ⟨_, _, _, _, h5⟩ := h.parts
  have hne : l.flatMap f ≠ [] := by
    intro h0
    have h1 := flat_at hf l k hk 0 hm
    rw [h0, List.getElem?_eq_getElem (l := f l[k]) (by rw [hf]; exact hm)] at h1
    cases h1
  rcases h5 with h5 | ⟨ad, hA, hlt, hc⟩
  · exact absurd h5 hne
  · refine ⟨ad, hA, hlt, fun i hi => ?_⟩
    have h1 := flat_at hf l k hk i hi
    rw [List.getElem?_eq_getElem (l := f l[k]) (by rw [hf]; exact hi)] at h1 ⊢
    exact hc _ _ h1
/-- The first k of it, by x[:k]. -/
theorem IsR.take (h : IsR f l (.slice A n c) w) (hf : ∀ x, (f x).length = m) {k : Nat} (hk : k ≤ n) : IsR f (l.take k) (.slice A k c) w := by
  obtain ⟨h1, h2, h3, h4, h5⟩ := h.parts
  have hl : (l.take k).length = k := by rw [List.length_take]; omega
  exact ⟨A, c, by rw [hl], fun h => by have := h2 h; omega, by rw [hl]; omega, h4, by rw [flat_take hf]; exact h5.take _⟩
end

section

variable {P : Program} {o : Oper} {ρ : Operand → Value} {w : World} {R : Value → World → Prop}
/-- x[k] of a slice whose values take up m cells each: the place. -/
theorem gives_index_wide {t e : TypeId} {m : Nat} (ht : P.underlying t = some (.slice e)) (hs : ∀ W, (sizeOf e).run P W = .ok m W) {x y : Operand} {ad : Addr} {n c k : Nat} (ho : o.op = .indexAddr t x y) (hx : ρ x = .slice (some ad) n c) (hy : ρ y = .int .i64 (k : Int)) (hk : k < n)
    (hR : R (.pointer (some (ad.add (k * m)))) w) : Gives P o ρ w R := by
  refine gives_of (v := .pointer (some (ad.add (k * m)))) (w' := w) ?_ hR
  have h0 : (0 : Int) ≤ (k : Int) := by omega
  have h1 : (k : Int) < (n : Int) := by omega
  simp [execOp, ho, hx, hy, go_sem, ht, hs, h0, h1]
/-- A load of a whole value of several cells, from wherever they lie. -/
theorem gives_load_wide {t : TypeId} {x : Operand} {ad : Addr} {cs : List Value} {d : TypeDesc} (ho : o.op = .load t x) (hx : ρ x = .pointer (some ad)) (hu : P.underlying t = some d) (hd : (match (generalizing := false) d with | .struct _ | .array _ _ => true | _ => false) = true)
    (hs : ∀ W, (sizeOf t).run P W = .ok cs.length W) (hc : ∀ j v, cs[j]? = some v → w.cell? (ad.add j) = some v) (hR : R (.agg cs.toArray) w) : Gives P o ρ w R := by
  refine gives_of (v := .agg cs.toArray) (w' := w) ?_ hR
  have ha : (isAgg t).run P w = .ok true w := by
    unfold isAgg
    rw [Sem.run_bind, run_underlying hu]
    cases d <;> first | rfl | cases hd
  have hl : (loadVar t ad).run P w = .ok (.agg cs.toArray) w := by
    simp [loadVar, ha, hs, run_loadCells_list w ad cs hc]
  simp [execOp, ho, hx, Instr.loadAt, Instr.sureAddr, hl]
/-- p.f: the place of a field, where p is known. -/
theorem gives_field {t : TypeId} {x : Operand} {ad ad' : Addr} {f : Nat} (ho : o.op = .fieldAddr t x f) (hx : ρ x = .pointer (some ad)) (hrun : ∀ W, (Instr.fieldAt t (.pointer (some ad)) f).run P W = .ok (.pointer (some ad')) W)
    (hR : R (.pointer (some ad')) w) : Gives P o ρ w R := by
  refine gives_of (v := .pointer (some ad')) (w' := w) ?_ hR
  simp [execOp, ho, hx, hrun]
end

end Go.Proofs.YtchgpgnipmmflaaDoor

/- Values of one cell each in a row of the call's own. Over any program. -/





namespace Go.Proofs.YtchgpgnipmmflaaDoor

open Go.RowKit

def OwnV {α : Type} (f : α → Value) (e : TypeId) (w : World) (l : List α) (v : Value) (w' : World) : Prop := ∃ n, w'.ownsRow w.heap.size e 1 v n (l.map f)
section

variable {α : Type} {f : α → Value} {e : TypeId} {w w0 w1 w2 : World} {l : List α} {v : Value}
theorem OwnV.isV (h : OwnV f e w l v w1) : IsV f l v w1 := h.elim fun _ h => isV_own h
theorem OwnV.nil (f : α → Value) (e : TypeId) (w w' : World) : OwnV f e w [] (.slice none 0 0) w' := ⟨0, World.ownsRow_nil _ _ _ _⟩
theorem OwnV.below (h : OwnV f e w l v w1) (hb : Below w1.heap.size w1 w2) : OwnV f e w l v w2 := h.elim fun _ h => ⟨_, own_below h hb⟩
theorem OwnV.base (hb : w0.heap.size ≤ w.heap.size) (h : OwnV f e w l v w1) : OwnV f e w0 l v w1 := h.elim fun _ h => ⟨_, own_base hb h⟩
end

end Go.Proofs.YtchgpgnipmmflaaDoor

/- Rows of the call's own whose values take up m cells each: append. Over any program. -/





namespace Go.Proofs.YtchgpgnipmmflaaDoor

open Go.RowKit

/-- The facts on an element's type that appends ask: m cells, so many bytes. -/
structure ElemW (P : Program) (t e : TypeId) (bytes m : Nat) (z : Value) : Prop where
  under : P.underlying t = some (.slice e)
  cells : z.cells.size = m
  pos : 0 < m
  info : ∃ (i : TypeInfo), P.info? e = some i ∧ i.zero = some z ∧ i.size = m ∧ i.bytes = bytes
section

variable {P : Program} (w : World)
theorem runW_append_lies (base : Nat) (t ty e : TypeId) (i : TypeInfo) (z : Value) (size bytes : Nat) (ht : P.underlying t = some (.slice e)) (hi : P.info? e = some i) (hz : i.zero = some z)
    (hsize : i.size = size) (hby : i.bytes = bytes) (hzs : z.cells.size = size) (hsz : 0 < size)
    (v : Value) (n : Nat) (xs : List Value) (hown : w.ownsRow base e size v n xs) (A : Option Addr) (m c : Nat) (hA : A = none → m = 0) (news : List Value) (hm : news.length = m * size) (hr : Lies w A news) (h1 : ∀ u ∈ news, u.oneCell' = true)
    (h63 : n + m ≤ maxLen) (hbytes : (n + m) * bytes ≤ 140737488355328) (hbase : base ≤ w.heap.size) :
    ∃ v' w', (Builtin.append_ #[t, t] ty #[v, .slice A m c]).run P w = .ok v' w' ∧ w'.ownsRow base e size v' (n + m) (xs ++ news) ∧ w.grownBy w' v.ownBlock ∧
      (v'.ownBlock = v.ownBlock ∨ v'.ownBlock = some w.heap.size) := by
  rcases A with _ | ad
  · have hm0 := hA rfl
    subst hm0
    have hn : news = [] := List.eq_nil_of_length_eq_zero (by rw [hm, Nat.zero_mul])
    subst hn
    refine ⟨v, w, ?_, by simpa using hown, World.grownBy.refl w _, .inl rfl⟩
    rcases hown.2 with ⟨rfl, rfl⟩ | ⟨g, cap, cur, rfl, _, _, hnc, _⟩
    · simp [Builtin.append_, run_underlying ht, sizeOf, typeInfo, hi, Builtin.lenOf, Builtin.firstCells]
    · simp [Builtin.append_, run_underlying ht, sizeOf, typeInfo, hi, Builtin.lenOf, Builtin.firstCells, hnc, storeCells]
  · have hcells : ∀ j u, news[j]? = some u → w.cell? (ad.add j) = some u := by
      intro j u hu
      rcases hr with hr | ⟨ad', hA, _, hc⟩
      · rw [hr] at hu; simp at hu
      · injection hA with hA; subst hA; exact hc j u hu
    obtain ⟨v', w', hrun, h2, h3, _, h5⟩ := run_append_own_at (P := P) w base t ty e i z size bytes ht hi hz hsize hby hzs hsz v n xs hown ad m c news hm hcells h1 h63 hbytes hbase
    exact ⟨v', w', hrun, h2, h3, h5⟩
theorem wpListW_append {ops : Array Oper} {rest : List Oper} {o : Oper} {a : Act} {Q : Exit → Act → World → Prop} (hgd : o.guard = none) (s x : Operand) (t : TypeId)
    (ho : o.op = .call { callee := .builtin .append, args := #[s, x], argTypes := #[t, t] })
    (base : Nat) (e : TypeId) (i : TypeInfo) (z : Value) (size bytes : Nat) (ht : P.underlying t = some (.slice e)) (hi : P.info? e = some i) (hz : i.zero = some z)
    (hsize : i.size = size) (hby : i.bytes = bytes) (hzs : z.cells.size = size) (hsz : 0 < size)
    (v : Value) (n : Nat) (xs : List Value) (hs : a.eval s = v) (hown : w.ownsRow base e size v n xs) (A : Option Addr) (m c : Nat) (hx : a.eval x = .slice A m c) (hA : A = none → m = 0)
    (news : List Value) (hm : news.length = m * size) (hr : Lies w A news) (h1 : ∀ u ∈ news, u.oneCell' = true)
    (h63 : n + m ≤ maxLen) (hbytes : (n + m) * bytes ≤ 140737488355328) (hbase : base ≤ w.heap.size)
    (h : ∀ v' w', w'.ownsRow base e size v' (n + m) (xs ++ news) → w.grownBy w' v.ownBlock → (v'.ownBlock = v.ownBlock ∨ v'.ownBlock = some w.heap.size) → wpList P ops Q rest (a.put o.dst v') w') : wpList P ops Q (o :: rest) a w := by
  refine wpList_plain hgd fun K hK => ?_
  obtain ⟨v', w', hrun, h2, h3, h4⟩ := runW_append_lies (P := P) w base t o.type e i z size bytes ht hi hz hsize hby hzs hsz v n xs hown A m c hA news hm hr h1 h63 hbytes hbase
  unfold Oper.wp execOp
  simp only [ho, resolve, invoke, builtin, Sem.run_bind, Sem.run_pure, Result.andThen_ok, List.map_toArray, List.map_cons, List.map_nil, hs, hx, hrun]
  exact hK _ _ (h v' w' h2 h3 h4)
end
theorem ownW_lt {w : World} {base size n : Nat} {e : TypeId} {v : Value} {xs : List Value} (h : w.ownsRow base e size v n xs) {g : Nat} (hg : v.ownBlock = some g) : base ≤ g ∧ g < w.heap.size := by
  rcases h.2 with ⟨rfl, _⟩ | ⟨g', cap, cur, rfl, hb, hc, _⟩
  · simp [Value.ownBlock] at hg
  · simp [Value.ownBlock] at hg
    subst hg
    exact ⟨hb, (Array.getElem?_eq_some_iff.1 hc).1⟩
theorem belowW_append {w0 w w' : World} {base size : Nat} {e : TypeId} {v : Value} {n : Nat} {xs : List Value} (hb : Below base w0 w) (hown : w.ownsRow base e size v n xs) (hz : base ≤ w.heap.size) (hg : w.grownBy w' v.ownBlock) : Below base w0 w' :=
  hb.grown hg hz fun _ hk => (ownW_lt hown hk).1
theorem ownW_alloc {w : World} {base size n : Nat} {e : TypeId} {v : Value} {xs : List Value} (h : w.ownsRow base e size v n xs) (o : Obj) : (w.alloc o).ownsRow base e size v n xs :=
  own_below h ((Below.refl _ _).alloc (Nat.le_refl _) o)
theorem ownW_base {w : World} {base base' size n : Nat} {e : TypeId} {v : Value} {xs : List Value} (hb : base' ≤ base) (h : w.ownsRow base e size v n xs) : w.ownsRow base' e size v n xs :=
  ⟨h.1, h.2.imp id fun ⟨g, cap, cur, h1, h2, h3⟩ => ⟨g, cap, cur, h1, Nat.le_trans hb h2, h3⟩⟩
theorem cells_new (w : World) (cs : List Value) (t : TypeId) : Lies (w.alloc (.cells cs.toArray t)) (some ⟨w.heap.size, 0, none⟩) cs := by
  have h : Row (w.alloc (.cells cs.toArray t)) w.heap.size t cs := heap_alloc_new w _
  simpa using h.lies 0
/-- append of one value of m cells, at a call of the walk. -/
theorem wpList_pushW {P : Program} {W : World} {ops : Array Oper} {rest : List Oper} {o : Oper} {a : Act} {Q : Exit → Act → World → Prop} {t e : TypeId} {bytes m : Nat} {z : Value} (E : ElemW P t e bytes m z)
    (hgd : o.guard = none) (s x : Operand) (ho : o.op = .call { callee := .builtin .append, args := #[s, x], argTypes := #[t, t] })
    (base : Nat) (v : Value) (n : Nat) (xs cs : List Value) (w w0 : World) (hs : a.eval s = v) (hx : a.eval x = .slice (some ⟨w.heap.size, 0, none⟩) 1 1) (hW : W = w.alloc (.cells cs.toArray e)) (hm : cs.length = m)
    (hu : ∀ u ∈ cs, u.oneCell' = true) (hown : w.ownsRow base e m v n xs) (hb : Below base w0 w) (hbase : base ≤ w.heap.size) (hn : n ≤ 1000000000) (hby : bytes ≤ 100)
    (h : ∀ v' w', w'.ownsRow base e m v' (n + 1) (xs ++ cs) → Below base w0 w' → w.grownBy w' v.ownBlock → (v'.ownBlock = v.ownBlock ∨ v'.ownBlock = some (w.heap.size + 1)) → wpList P ops Q rest (a.put o.dst v') w') : wpList P ops Q (o :: rest) a W := by
  obtain ⟨i, h1, h2, h3, h4⟩ := E.info
  subst hW
  have hle : (n + 1) * bytes ≤ (n + 1) * 100 := Nat.mul_le_mul_left _ hby
  refine wpListW_append _ hgd s x t ho base e i z m bytes E.under h1 h2 h3 h4 E.cells E.pos v n xs hs (ownW_alloc hown _) _ _ _ hx (by simp) cs (by rw [hm, Nat.one_mul]) (cells_new w cs e) hu (by unfold maxLen; omega) (by omega) (by simp; omega) ?_
  intro v' w' hown' hg hq
  refine h v' w' hown' (belowW_append (hb.alloc hbase _) (ownW_alloc hown _) (by simp; omega) hg) ⟨hg.os, hg.tape, hg.output, Nat.le_trans (by simp) hg.size, fun k hk hne => (hg.block k (by simp; omega) hne).trans (Below.heap_alloc w _ k hk)⟩ (by simpa using hq)
/-- The same, where the new block's number stands as g. -/
theorem wpList_pushG {P : Program} {W : World} {ops : Array Oper} {rest : List Oper} {o : Oper} {a : Act} {Q : Exit → Act → World → Prop} {t e : TypeId} {bytes m : Nat} {z : Value} (E : ElemW P t e bytes m z)
    (hgd : o.guard = none) (s x : Operand) (ho : o.op = .call { callee := .builtin .append, args := #[s, x], argTypes := #[t, t] })
    (base : Nat) (v : Value) (n : Nat) (xs cs : List Value) (w w0 : World) (g : Nat) (hgs : g = w.heap.size) (hs : a.eval s = v) (hx : a.eval x = .slice (some ⟨g, 0, none⟩) 1 1) (hW : W = w.alloc (.cells cs.toArray e)) (hm : cs.length = m)
    (hu : ∀ u ∈ cs, u.oneCell' = true) (hown : w.ownsRow base e m v n xs) (hb : Below base w0 w) (hbase : base ≤ w.heap.size) (hn : n ≤ 1000000000) (hby : bytes ≤ 100)
    (h : ∀ v' w', w'.ownsRow base e m v' (n + 1) (xs ++ cs) → Below base w0 w' → w.grownBy w' v.ownBlock → (v'.ownBlock = v.ownBlock ∨ v'.ownBlock = some (w.heap.size + 1)) → wpList P ops Q rest (a.put o.dst v') w') : wpList P ops Q (o :: rest) a W := by
  subst hgs
  exact wpList_pushW E hgd s x ho base v n xs cs w w0 hs hx hW hm hu hown hb hbase hn hby h
/-- append of what lies somewhere, at a call of the walk. -/
theorem wpList_joinW {P : Program} {w : World} {ops : Array Oper} {rest : List Oper} {o : Oper} {a : Act} {Q : Exit → Act → World → Prop} {t e : TypeId} {bytes size : Nat} {z : Value} (E : ElemW P t e bytes size z)
    (hgd : o.guard = none) (s x : Operand) (ho : o.op = .call { callee := .builtin .append, args := #[s, x], argTypes := #[t, t] })
    (base : Nat) (v : Value) (n : Nat) (xs : List Value) (A : Option Addr) (m c : Nat) (news : List Value) (w0 : World) (hs : a.eval s = v) (hx : a.eval x = .slice A m c)
    (hA : A = none → m = 0) (hm : news.length = m * size) (hr : Lies w A news) (h1 : ∀ u ∈ news, u.oneCell' = true)
    (hown : w.ownsRow base e size v n xs) (hb : Below base w0 w) (hbase : base ≤ w.heap.size) (hn : n + m ≤ 1000000000) (hby : bytes ≤ 100)
    (h : ∀ v' w', w'.ownsRow base e size v' (n + m) (xs ++ news) → Below base w0 w' → w.grownBy w' v.ownBlock → (v'.ownBlock = v.ownBlock ∨ v'.ownBlock = some w.heap.size) → wpList P ops Q rest (a.put o.dst v') w') : wpList P ops Q (o :: rest) a w := by
  obtain ⟨i, h2, h3, h4, h5⟩ := E.info
  have hle : (n + m) * bytes ≤ (n + m) * 100 := Nat.mul_le_mul_left _ hby
  refine wpListW_append _ hgd s x t ho base e i z size bytes E.under h2 h3 h4 h5 E.cells E.pos v n xs hs hown A m c hx hA news hm hr h1 (by unfold maxLen; omega) (by omega) hbase ?_
  intro v' w' hown' hg hq
  exact h v' w' hown' (belowW_append hb hown hbase hg) hg hq
section

variable {α : Type} {f : α → List Value} {l : List α} {v : Value} {w w' : World} {m n : Nat}
/-- What the call owns holds so many values. -/
theorem isR_own {base : Nat} {e : TypeId} (hf : ∀ x, (f x).length = m) (hm : 0 < m) (h : w.ownsRow base e m v n (l.flatMap f)) : IsR f l v w := by
  have hl : l.length = n := by
    have h1 := h.1
    rw [flat_len hf] at h1
    exact Nat.eq_of_mul_eq_mul_right hm h1
  rcases h.2 with ⟨rfl, rfl⟩ | ⟨g, cap, cur, rfl, hb, hg, hnc, hcm, hcs, ht⟩
  · obtain rfl := List.eq_nil_of_length_eq_zero hl
    exact ⟨none, 0, rfl, by simp, by simp, by unfold maxLen; omega, Lies.nil⟩
  · exact ⟨_, cap, by rw [hl], by simp, by omega, hcm, .inr ⟨_, rfl, (Array.getElem?_eq_some_iff.1 hg).1, h.cells (g := g) rfl⟩⟩
theorem isR_nil (f : α → List Value) (w : World) : IsR f [] (.slice none 0 0) w := ⟨none, 0, rfl, by simp, by simp, by unfold maxLen; omega, Lies.nil⟩
theorem ownW_made (w : World) (e : TypeId) (m : Nat) : (w.alloc (.cells #[] e)).ownsRow w.heap.size e m (.slice (some ⟨w.heap.size, 0, none⟩) 0 0) 0 [] :=
  ⟨by simp, .inr ⟨w.heap.size, 0, #[], rfl, Nat.le_refl _, heap_alloc_new w _, Nat.le_refl _, by unfold maxLen; omega, by simp, by simp⟩⟩
/-- Of two rows of different element types the one lasts where the other one grows. -/
theorem own_otherW {base base' s1 s2 k : Nat} {e1 e2 : TypeId} {v1 v2 : Value} {xs ys : List Value} (h1 : w.ownsRow base e1 s1 v1 n xs) (h2 : w.ownsRow base' e2 s2 v2 k ys) (hne : e1 ≠ e2) (hg : w.grownBy w' v2.ownBlock) : w'.ownsRow base e1 s1 v1 n xs := by
  refine ⟨h1.1, h1.2.imp id fun ⟨g, cap, cur, hv, hb, hc, r⟩ => ⟨g, cap, cur, hv, hb, ?_, r⟩⟩
  have hlt := (Array.getElem?_eq_some_iff.1 hc).1
  refine (hg.block g hlt ?_).trans hc
  rcases h2.2 with ⟨rfl, _⟩ | ⟨g2, cap2, cur2, rfl, _, hc2, _⟩
  · simp [Value.ownBlock]
  · intro he
    simp [Value.ownBlock] at he
    subst he
    rw [hc] at hc2
    injection hc2 with hc2
    injection hc2 with _ h3
    exact hne h3
theorem flat_snoc (l : List α) (x : α) : (l ++ [x]).flatMap f = l.flatMap f ++ f x := by simp
end
theorem OwnV.other {α : Type} {f : α → Value} {e e2 : TypeId} {w w1 w2 : World} {l : List α} {v y : Value} {B k s : Nat} {ys : List Value} (h : OwnV f e w l v w1) (hy : w1.ownsRow B e2 s y k ys) (hne : e ≠ e2) (hg : w1.grownBy w2 y.ownBlock) : OwnV f e w l v w2 := h.elim fun _ h => ⟨_, own_otherW h hy hne hg⟩
end Go.Proofs.YtchgpgnipmmflaaDoor

/- A region that draws, each operation shown once, over ANY relation of worlds (XRegion: over 'old memory as it was'): for a region that also writes: the relation says what each operation leaves as it was; a fact may speak of the values of what its operation waits for. -/



namespace Go.Proofs.YtchgpgnipmmflaaDoor

open Go.RowKit

/-- A relation of worlds that regions may go by. -/
structure Later (R : World → World → Prop) : Prop where
  refl : ∀ w, R w w
  trans : ∀ {a b c}, R a b → R b c → R a c
  draw : ∀ w, R w { w with drawn := w.drawn + 1 }
def upd (vs : Nat → Value) (i : Nat) (v : Value) : Nat → Value := fun j => if j = i then v else vs j
theorem upd_at (vs : Nat → Value) (i : Nat) (v : Value) : upd vs i v i = v := if_pos rfl
theorem upd_ne (vs : Nat → Value) {i j : Nat} (v : Value) (h : j ≠ i) : upd vs i v j = vs j := if_neg h
/-- What is known of what an operation sees. -/
structure RCtxR (ops : Array Oper) (F : Nat → (Nat → Value) → World → Prop) (a0 : Act) (i : Nat) (ρ : Operand → Value) (vs : Nat → Value) (w : World) : Prop where
  const : ∀ v, ρ (.const v) = v
  func : ∀ f, ρ (.func f) = .func (.func f) #[] #[]
  glob : ∀ g, ρ (.global g) = .pointer (some ⟨g, 0, none⟩)
  new : ∀ d j, writer ops i d = some j → ρ (.tmp d) = vs j
  fact : ∀ j, rpred ops j i = true → F j vs w
  old : ∀ d v, writer ops i d = none → a0.eval (.tmp d) = v → ρ (.tmp d) = v
theorem writer_pred {ops : Array Oper} {i d j : Nat} (h : writer ops i d = some j) : rpred ops j i = true := by
  have h1 := List.find?_some h
  simp at h1
  exact h1.2
section

variable {P : Program} {ops : Array Oper} {Q : Exit → Act → World → Prop} {R : World → World → Prop}
/-- **A region that draws, whose first m operations are each shown once** (the frame: as the text's order gives it); what follows them is shown from where all these have been done. -/
theorem wpAny_region_coreR (HR : Later R) {a0 : Act} {w0 : World} (m : Nat) (hm : m ≤ ops.size) (F : Nat → (Nat → Value) → World → Prop)
    (hok : regionOk ops a0.tmps.size = true)
    (hF : ∀ i vs w w', F i vs w → R w w' → F i vs w')
    (hloc : ∀ i vs vs' w, (∀ k, (k = i ∨ rpred ops k i = true) → vs k = vs' k) → F i vs w → F i vs' w)
    (hstep : ∀ i o, i < m → ops[i]? = some o → ∀ (vs : Nat → Value) (w : World), R w0 w → (∀ j, rpred ops j i = true → F j vs w) →
      if Region.wanted o (yielded ops (puts ops (fun _ => true) vs i a0).tmps) = true then
        o.wp P (puts ops (fun _ => true) vs i a0) w (fun a' w' => ∃ v, a' = (puts ops (fun _ => true) vs i a0).put o.dst v ∧ F i (upd vs i v) w' ∧ R w w') (fun _ _ _ => False)
      else F i (upd vs i undef) w)
    (hwait : ∀ l : Array Bool, HeadInv .any ops m l → (∃ i, i < m ∧ l.getD i true = false) → ∀ t, m ≤ t → t ∉ Region.ready .any ops l)
    (hfin : ∀ (l : Array Bool) (vs : Nat → Value) (w : World), l.size = ops.size → (∀ j, j < m → l.getD j false = true) → (∀ j, m ≤ j → j < ops.size → l.getD j false = false) → R w0 w → (∀ i, i < m → F i vs w) →
      wpAny P .any ops Q (ops.size - m) l (puts ops (fun _ => true) vs m a0) w) :
    wpAny P .any ops Q ops.size (Array.replicate ops.size false) a0 { w0 with drawn := w0.drawn + 1 } := by
  have main : ∀ (fuel : Nat) (l : Array Bool) (vs : Nat → Value) (w : World), l.size = ops.size → left m l ≤ fuel → (∀ i j, i < ops.size → l.getD i false = true → rpred ops j i = true → l.getD j false = true) →
      (∀ t, m ≤ t → t < ops.size → l.getD t false = false) →
      (∀ i, i < ops.size → l.getD i false = true → F i vs w) → R w0 w → wpAny P .any ops Q (fuel + (ops.size - m)) l (puts ops (fun j => l.getD j false) vs ops.size a0) w := by
    intro fuel
    have hend : ∀ (f : Nat) (l : Array Bool) (vs : Nat → Value) (w : World), l.size = ops.size → (∀ t, m ≤ t → t < ops.size → l.getD t false = false) → (∀ i, i < ops.size → l.getD i false = true → F i vs w) → R w0 w → (∀ j, j < m → l.getD j false = true) →
        wpAny P .any ops Q (f + (ops.size - m)) l (puts ops (fun j => l.getD j false) vs ops.size a0) w := by
      intro f l vs w hs htl hfs hb hall
      rw [puts_cut _ vs a0 m ops.size hm htl, puts_congr (fun j => l.getD j false) (fun _ => true) vs vs a0 m hall (fun _ _ _ => rfl)]
      exact wpAny_add _ _ _ _ _ (hfin l vs w hs hall htl hb fun i hi => hfs i (by omega) (hall i hi))
    induction fuel with
    | zero =>
      intro l vs w hs hl hcl htl hfs hb
      refine hend 0 l vs w hs htl hfs hb fun j hj => ?_
      cases h1 : l.getD j false with
      | true => rfl
      | false => have := left_set_in hj (by omega) h1; omega
    | succ fuel ih =>
      intro l vs w hs hl hcl htl hfs hb
      by_cases hall : ∀ j, j < m → l.getD j false = true
      · exact hend _ l vs w hs htl hfs hb hall
      obtain ⟨j0, hj0⟩ := Classical.not_forall.1 hall
      have hj0m : j0 < m := by
        rcases Nat.lt_or_ge j0 m with h | h
        · exact h
        · exact absurd (fun h' => absurd h' (by omega)) hj0
      have hj0f : l.getD j0 false = false := by
        cases h1 : l.getD j0 false with
        | false => rfl
        | true => exact absurd (fun _ => h1) hj0
      have hinv : HeadInv .any ops m l := by
        refine ⟨hs, fun j oj hj hlj e he hbd => ?_, fun t ht ht' => getD_in (by omega) (htl t ht ht')⟩
        refine hcl j e.on (Array.getElem?_eq_some_iff.1 hj).1 hlj ?_
        unfold rpred
        rw [hj, Option.map_some, Option.getD_some, List.any_eq_true]
        exact ⟨e, by simpa using he, by rw [hbd]; simp⟩
      have hwt := hwait l hinv ⟨j0, hj0m, getD_in (by omega) hj0f⟩
      rw [show fuel + 1 + (ops.size - m) = (fuel + (ops.size - m)) + 1 by omega]
      refine ⟨fun hr => ?_, fun i hi => ?_⟩
      · exfalso
        have hallb : ∀ i, i < m → l.getD i false = true := by
          intro i
          induction i using Nat.strongRecOn with
          | ind i ih =>
            intro hi
            by_cases hl : l.getD i false = true
            · exact hl
            · exfalso
              have ho : ops[i]? = some ops[i] := Array.getElem?_eq_getElem (by omega)
              have hok' := regionOk_at hok ho
              have hmem : i ∈ Region.ready .any ops l := mem_ready.2 ⟨by
                have : i < l.size := by omega
                simp [this] at hl ⊢
                exact hl, ops[i], ho, fun e he hbd => ih e.on (hok'.1 e he hbd) (by have := hok'.1 e he hbd; omega)⟩
              rw [hr] at hmem
              cases hmem
        exact absurd (hallb j0 hj0m) (by rw [hj0f]; decide)
      have him : i < m := by
        rcases Nat.lt_or_ge i m with h | h
        · exact h
        · exact absurd hi (hwt i h)
      obtain ⟨h0, o, ho, hpre⟩ := mem_ready.1 hi
      have hlt : i < ops.size := (Array.getElem?_eq_some_iff.1 ho).1
      have h1 : l.getD i false = false := by
        have : i < l.size := by omega
        simp [this] at h0 ⊢
        exact h0
      obtain ⟨hback, hsel, hdst, hlook⟩ := regionOk_at hok ho
      have hpred : ∀ j, rpred ops j i = true → l.getD j false = true ∧ j < i := by
        intro j hj
        unfold rpred at hj
        rw [ho, Option.map_some, Option.getD_some, List.any_eq_true] at hj
        obtain ⟨e, he, hej⟩ := hj
        have he : e ∈ o.after := by simpa using he
        simp at hej
        rw [← hej.2]
        exact ⟨hpre e he hej.1, hback e he hej.1⟩
      have hrd : rdst ops i = o.dst := by unfold rdst; rw [ho]; rfl
      -- what the operation looks at is the same in both frames
      have hsame : ∀ d ∈ o.looksAt ops, (puts ops (fun j => l.getD j false) vs ops.size a0).tmps[d]? = (puts ops (fun _ => true) vs i a0).tmps[d]? := by
        intro d hd
        by_cases hex : ∃ j, j < ops.size ∧ j ≠ i ∧ rdst ops j = some d
        · obtain ⟨j, hj, hne, hjd⟩ := hex
          have hoj : ops[j]? = some ops[j] := Array.getElem?_eq_getElem hj
          have hdj : ops[j].dst = some d := by unfold rdst at hjd; rw [hoj] at hjd; exact hjd
          have huniq : ∀ k, k < ops.size → k ≠ j → rdst ops k ≠ some d := fun k hk hkj => ((regionOk_at hok hoj).2.2.1 d hdj).2 k hk hkj
          rcases hlook d hd j hj hne hjd with hp | hp
          · obtain ⟨hlj, hji⟩ := hpred j hp
            rw [puts_new _ vs a0 d j hjd hlj ops.size hj huniq, puts_new _ vs a0 d j hjd rfl i hji fun k hk => huniq k (by omega)]
          · have hnl : l.getD j false = false := by
              cases hlj : l.getD j false with
              | false => rfl
              | true => exact absurd (hcl j i hj hlj hp) (by rw [h1]; decide)
            have hij : i < j := by
              unfold rpred at hp
              rw [hoj, Option.map_some, Option.getD_some, List.any_eq_true] at hp
              obtain ⟨e, he, hej⟩ := hp
              have he : e ∈ ops[j].after := by simpa using he
              simp at hej
              have := (regionOk_at hok hoj).1 e he hej.1
              omega
            rw [puts_old _ vs a0 d ops.size, puts_old _ vs a0 d i]
            · intro k hk _ hkd
              exact huniq k (by omega) (by omega) hkd
            · intro k hk hlk hkd
              by_cases hkj : k = j
              · subst hkj; rw [hnl] at hlk; cases hlk
              · exact huniq k hk hkj hkd
        · rw [puts_old _ vs a0 d ops.size, puts_old _ vs a0 d i]
          · intro k hk _ hkd; exact hex ⟨k, by omega, by omega, hkd⟩
          · intro k hk hlk hkd
            by_cases hki : k = i
            · subst hki; rw [h1] at hlk; cases hlk
            · exact hex ⟨k, hk, hki, hkd⟩
      have hst := hstep i o him ho vs w hb fun j hj => hfs j (by have := (hpred j hj).2; omega) (hpred j hj).1
      have hwant := wanted_congr hsame
      have hexec : execOp (puts ops (fun j => l.getD j false) vs ops.size a0).eval o = execOp (puts ops (fun _ => true) vs i a0).eval o := by
        refine execOp_congr o hsel fun x hx => ?_
        cases x with
        | tmp d =>
          have hd : d ∈ o.looksAt ops := List.mem_append_left _ (List.mem_filterMap.2 ⟨.tmp d, by simpa using hx, rfl⟩)
          have := hsame d hd
          show (puts ops (fun j => l.getD j false) vs ops.size a0).tmps.getD d undef = (puts ops (fun _ => true) vs i a0).tmps.getD d undef
          rw [Array.getD_eq_getD_getElem?, Array.getD_eq_getD_getElem?, this]
        | _ => rfl
      -- behind it
      have hnext : ∀ v w', F i (upd vs i v) w' → R w w' → wpAny P .any ops Q (fuel + (ops.size - m)) (l.setIfInBounds i true) ((puts ops (fun j => l.getD j false) vs ops.size a0).put o.dst v) w' := by
        intro v w' hv hb'
        have hset := puts_set (ops := ops) (fun j => l.getD j false) vs a0 i v h1 ops.size hlt fun j hj hne d hd => (hdst d (by rw [← hrd]; exact hd)).2 j hj hne
        rw [← hrd, ← hset]
        have hmarks : ∀ j, j < ops.size → (j == i || l.getD j false) = (l.setIfInBounds i true).getD j false := by
          intro j hj
          by_cases hij : i = j
          · subst hij; simp [hs, hlt]
          · rw [getD_set_ne false hij]
            have : (j == i) = false := by simp; omega
            simp [this]
        rw [puts_congr _ (fun j => (l.setIfInBounds i true).getD j false) _ (fun j => if j = i then v else vs j) a0 ops.size hmarks (fun _ _ _ => rfl)]
        refine ih (l.setIfInBounds i true) _ w' (by simp [hs]) (by have := left_set_in him (by omega) h1; omega) ?_ ?_ ?_ (HR.trans hb hb')
        · intro j k hj hlj hjk
          rw [← hmarks j hj] at hlj
          by_cases hji : j = i
          · subst hji; exact getD_set_true (hpred k hjk).1
          · have : (j == i) = false := by simpa using hji
            rw [this, Bool.false_or] at hlj
            exact getD_set_true (hcl j k hj hlj hjk)
        · intro t ht ht'
          rw [getD_set_ne false (by omega)]
          exact htl t ht ht'
        · intro j hj hlj
          rw [← hmarks j hj] at hlj
          by_cases hji : j = i
          · subst hji; exact hv
          · have : (j == i) = false := by simpa using hji
            rw [this, Bool.false_or] at hlj
            refine hF j _ w w' (hloc j vs _ w (fun k hk => ?_) (hfs j hj hlj)) hb'
            have hki : k ≠ i := by
              rcases hk with rfl | hk
              · exact hji
              · rintro rfl
                rw [hcl j k hj hlj hk] at h1
                cases h1
            show vs k = if k = i then v else vs k
            rw [if_neg hki]
      unfold wpOp
      rw [ho]
      show if Region.wanted o _ = true then _ else _
      rw [hwant]
      by_cases hw : Region.wanted o (yielded ops (puts ops (fun _ => true) vs i a0).tmps) = true
      · rw [if_pos hw] at hst ⊢
        exact .inl (wp_carry hexec (fun d hd => by rw [puts_size]; exact (hdst d hd).1) hst fun v w' h => hnext v w' h.1 h.2)
      · rw [if_neg hw] at hst ⊢
        exact hnext undef w hst (HR.refl _)
  have hinit := main m (Array.replicate ops.size false) (fun _ => undef) { w0 with drawn := w0.drawn + 1 } (by simp) (by unfold left; exact Nat.le_trans (List.length_filter_le _ _) (by simp))
    (fun i j hi h _ => by simp [hi] at h) (fun t _ _ => getD_replicate_false _ _) (fun i hi h => by simp [hi] at h) (HR.draw _)
  have hz : puts ops (fun j => (Array.replicate ops.size false).getD j false) (fun _ => undef) ops.size a0 = a0 := by
    have : ∀ n, n ≤ ops.size → puts ops (fun j => (Array.replicate ops.size false).getD j false) (fun _ => undef) n a0 = a0 := by
      intro n
      induction n with
      | zero => intro _; rfl
      | succ n ih =>
        intro hn
        have hlt : n < ops.size := by omega
        rw [puts, if_neg (by simp [hlt]), ih (by omega)]
    exact this _ (Nat.le_refl _)
  rw [hz, show m + (ops.size - m) = ops.size by omega] at hinit
  exact hinit

/-- **A region that draws**: each operation is shown once, in the frame that the text's order gives it, knowing of what it waits for; behind the region all facts hold. -/
theorem wpAny_region_factsR (HR : Later R) {a0 : Act} {w0 : World} (F : Nat → (Nat → Value) → World → Prop)
    (hok : regionOk ops a0.tmps.size = true)
    (hF : ∀ i vs w w', F i vs w → R w w' → F i vs w')
    (hloc : ∀ i vs vs' w, (∀ k, (k = i ∨ rpred ops k i = true) → vs k = vs' k) → F i vs w → F i vs' w)
    (hstep : ∀ i o, ops[i]? = some o → ∀ (vs : Nat → Value) (w : World), R w0 w → (∀ j, rpred ops j i = true → F j vs w) →
      if Region.wanted o (yielded ops (puts ops (fun _ => true) vs i a0).tmps) = true then
        o.wp P (puts ops (fun _ => true) vs i a0) w (fun a' w' => ∃ v, a' = (puts ops (fun _ => true) vs i a0).put o.dst v ∧ F i (upd vs i v) w' ∧ R w w') (fun _ _ _ => False)
      else F i (upd vs i undef) w)
    (hfin : ∀ (vs : Nat → Value) (w : World), R w0 w → (∀ i, i < ops.size → F i vs w) → Q .normal (puts ops (fun _ => true) vs ops.size a0) w) :
    wpAny P .any ops Q ops.size (Array.replicate ops.size false) a0 { w0 with drawn := w0.drawn + 1 } := by
  refine wpAny_region_coreR HR ops.size (Nat.le_refl _) F hok hF hloc (fun i o _ => hstep i o) (fun l _ _ t ht hr => ?_) fun l vs w hs hall _ hb hf => ?_
  · obtain ⟨_, o, ho, _⟩ := mem_ready.1 hr
    have := (Array.getElem?_eq_some_iff.1 ho).1
    omega
  · rw [Nat.sub_self]
    refine ⟨List.eq_nil_iff_forall_not_mem.2 fun i hi => ?_, hfin vs w hb hf⟩
    obtain ⟨h0, o, ho, _⟩ := mem_ready.1 hi
    have hlt := (Array.getElem?_eq_some_iff.1 ho).1
    have h1 := hall i hlt
    have : i < l.size := by omega
    simp [this] at h0 h1
    rw [h0] at h1
    cases h1
def StepAtR (R : World → World → Prop) (P : Program) (ops : Array Oper) (F : Nat → (Nat → Value) → World → Prop) (a0 : Act) (w0 : World) (i : Nat) (o : Oper) : Prop :=
  ∀ (ρ : Operand → Value) (vs : Nat → Value) (w : World), R w0 w → RCtxR ops F a0 i ρ vs w →
    match o.guard with
    | none => Gives P o ρ w fun v w' => F i (upd vs i v) w' ∧ R w w'
    | some (g, b) => ∀ d, rdst ops g = some d → (ρ (.tmp d) = .bool b → Gives P o ρ w fun v w' => F i (upd vs i v) w' ∧ R w w') ∧ (ρ (.tmp d) ≠ .bool b → F i (upd vs i undef) w)

def StepsFromR (R : World → World → Prop) (P : Program) (ops : Array Oper) (F : Nat → (Nat → Value) → World → Prop) (a0 : Act) (w0 : World) : Nat → List Oper → Prop
  | _, [] => True
  | i, o :: r => StepAtR R P ops F a0 w0 i o ∧ StepsFromR R P ops F a0 w0 (i + 1) r

theorem stepsFrom_atR {F : Nat → (Nat → Value) → World → Prop} {a0 : Act} {w0 : World} : ∀ (l : List Oper) (k : Nat), StepsFromR R P ops F a0 w0 k l → ∀ i o, l[i]? = some o → StepAtR R P ops F a0 w0 (k + i) o := by
  intro l
  induction l with
  | nil => intro k _ i o h; simp at h
  | cons x l ih =>
    intro k hs i o h
    cases i with
    | zero => simp at h; subst h; exact hs.1
    | succ i =>
      have := ih (k + 1) hs.2 i o (by simpa using h)
      rwa [Nat.add_assoc, Nat.add_comm 1] at this

/-- **A region that draws**, in the form in which it is used: a fact for each operation, a step for each. -/
theorem region_stepR {a0 : Act} {w0 : World} (F : Nat → (Nat → Value) → World → Prop)
    (hok : regionOk ops a0.tmps.size = true) (hgd : guardsOk ops = true)
    (i : Nat) (o : Oper) (ho : ops[i]? = some o) (hst : StepAtR R P ops F a0 w0 i o) (vs : Nat → Value) (w : World) (hb : R w0 w) (hp : ∀ j, rpred ops j i = true → F j vs w) :
      if Region.wanted o (yielded ops (puts ops (fun _ => true) vs i a0).tmps) = true then
        o.wp P (puts ops (fun _ => true) vs i a0) w (fun a' w' => ∃ v, a' = (puts ops (fun _ => true) vs i a0).put o.dst v ∧ F i (upd vs i v) w' ∧ R w w') (fun _ _ _ => False)
      else F i (upd vs i undef) w := by
  have hlt : i < ops.size := (Array.getElem?_eq_some_iff.1 ho).1
  obtain ⟨hback, hsel, hdst, hlook⟩ := regionOk_at hok ho
  have hpi : ∀ j, rpred ops j i = true → j < i := by
    intro j hj
    unfold rpred at hj
    rw [ho, Option.map_some, Option.getD_some, List.any_eq_true] at hj
    obtain ⟨e, he, hej⟩ := hj
    simp at hej
    rw [← hej.2]
    exact hback e (by simpa using he) hej.1
  have hw : ∀ d j, writer ops i d = some j → rdst ops j = some d ∧ rpred ops j i = true ∧ j < ops.size := by
    intro d j h
    have h1 := List.find?_some h
    have h2 := List.mem_of_find?_eq_some h
    simp at h1
    exact ⟨h1.1, h1.2, List.mem_range.1 h2⟩
  have hctx : RCtxR ops F a0 i (sees ops vs a0 i) vs w := by
    refine ⟨fun _ => rfl, fun _ => rfl, fun _ => rfl, fun d j h => ?_, hp, fun d v h hv => ?_⟩
    · show (match writer ops i d with | some j => vs j | none => a0.eval (.tmp d)) = vs j
      rw [h]
    · show (match writer ops i d with | some j => vs j | none => a0.eval (.tmp d)) = v
      rw [h]
      exact hv
  -- what it looks at is what it sees
  have hsee : ∀ d ∈ o.looksAt ops, (puts ops (fun _ => true) vs i a0).tmps.getD d undef = sees ops vs a0 i (.tmp d) := by
    intro d hd
    show _ = (match writer ops i d with | some j => vs j | none => a0.eval (.tmp d))
    cases hwr : writer ops i d with
    | some j =>
      obtain ⟨h1, h2, h3⟩ := hw d j hwr
      have hoj : ops[j]? = some ops[j] := Array.getElem?_eq_getElem h3
      have hdj : ops[j].dst = some d := by unfold rdst at h1; rw [hoj] at h1; exact h1
      have hu := (regionOk_at hok hoj).2.2.1 d hdj
      have hpn := puts_new (ops := ops) (fun _ => true) vs a0 d j h1 rfl i (hpi j h2) fun k hk => hu.2 k (by omega)
      rw [Array.getD_eq_getD_getElem?, hpn]
      simp [Act.put, hu.1]
    | none =>
      have hno : ∀ j, j < i → rdst ops j ≠ some d := by
        intro j hj hjd
        have h1 := hlook d hd j (by omega) (by omega) hjd
        rcases h1 with h1 | h1
        · have h2 := List.find?_eq_none.1 hwr j (List.mem_range.2 (by omega))
          simp [hjd, h1] at h2
        · have hoj : ops[j]? = some ops[j] := Array.getElem?_eq_getElem (by omega)
          unfold rpred at h1
          rw [hoj, Option.map_some, Option.getD_some, List.any_eq_true] at h1
          obtain ⟨e, he, hej⟩ := h1
          simp at hej
          have := (regionOk_at hok hoj).1 e (by simpa using he) hej.1
          omega
      show _ = a0.tmps.getD d undef
      rw [Array.getD_eq_getD_getElem?, Array.getD_eq_getD_getElem?, puts_old (ops := ops) (fun _ => true) vs a0 d i fun j hj _ => hno j hj]
  have hexec : execOp (puts ops (fun _ => true) vs i a0).eval o = execOp (sees ops vs a0 i) o := by
    refine execOp_congr o hsel fun x hx => ?_
    cases x with
    | tmp d => exact hsee d (List.mem_append_left _ (List.mem_filterMap.2 ⟨.tmp d, by simpa using hx, rfl⟩))
    | _ => rfl
  have h1 := hst (sees ops vs a0 i) vs w hb hctx
  cases hg : o.guard with
  | none =>
    rw [hg] at h1
    have hwa : Region.wanted o (yielded ops (puts ops (fun _ => true) vs i a0).tmps) = true := by unfold Region.wanted; rw [hg]
    rw [if_pos hwa]
    exact wp_of_gives hexec h1
  | some p =>
    obtain ⟨g, b⟩ := p
    rw [hg] at h1
    have hgo : (rdst ops g).isSome = true := by
      unfold guardsOk at hgd
      rw [List.all_eq_true] at hgd
      have := hgd i (List.mem_range.2 hlt)
      rw [ho, Option.map_some, Option.getD_some, hg] at this
      exact this
    obtain ⟨d, hd⟩ := Option.isSome_iff_exists.1 hgo
    obtain ⟨hyes, hno⟩ := h1 d hd
    have hdl : d ∈ o.looksAt ops := List.mem_append_right _ (by rw [hg]; show d ∈ ((ops[g]?).bind (·.dst)).toList; have : (ops[g]?).bind (·.dst) = some d := hd; rw [this]; simp)
    have hv := hsee d hdl
    by_cases hw : Region.wanted o (yielded ops (puts ops (fun _ => true) vs i a0).tmps) = true
    · rw [if_pos hw]
      refine wp_of_gives hexec (hyes ?_)
      rw [← hv]
      unfold Region.wanted at hw
      rw [hg] at hw
      have hd' : (ops[g]?).bind (·.dst) = some d := hd
      simp only [yielded, hd', Option.bind_some] at hw
      rw [Array.getD_eq_getD_getElem?]
      cases hx : (puts ops (fun _ => true) vs i a0).tmps[d]? with
      | none => rw [hx] at hw; simp at hw
      | some v =>
        rw [hx] at hw
        cases v <;> simp at hw
        subst hw
        rfl
    · rw [if_neg hw]
      refine hno fun h => hw ?_
      rw [← hv, Array.getD_eq_getD_getElem?] at h
      unfold Region.wanted
      rw [hg]
      have hd' : (ops[g]?).bind (·.dst) = some d := hd
      simp only [yielded, hd', Option.bind_some]
      cases hx : (puts ops (fun _ => true) vs i a0).tmps[d]? with
      | none => rw [hx] at h; cases h
      | some v =>
        rw [hx] at h
        have h : v = .bool b := h
        subst h
        simp
theorem stepsFrom_allR {F : Nat → (Nat → Value) → World → Prop} {a0 : Act} {w0 : World} (h : StepsFromR R P ops F a0 w0 0 ops.toList) (i : Nat) (o : Oper) (ho : ops[i]? = some o) : StepAtR R P ops F a0 w0 i o := by
  have := stepsFrom_atR ops.toList 0 h i o (by simpa using ho)
  simpa using this
theorem wpAny_region_stepsR (HR : Later R) {a0 : Act} {w0 : World} (F : Nat → (Nat → Value) → World → Prop)
    (hok : regionOk ops a0.tmps.size = true) (hgd : guardsOk ops = true)
    (hF : ∀ i vs w w', F i vs w → R w w' → F i vs w')
    (hloc : ∀ i vs vs' w, (∀ k, (k = i ∨ rpred ops k i = true) → vs k = vs' k) → F i vs w → F i vs' w)
    (hsteps : StepsFromR R P ops F a0 w0 0 ops.toList)
    (hfin : ∀ (vs : Nat → Value) (w : World), R w0 w → (∀ i, i < ops.size → F i vs w) → Q .normal (puts ops (fun _ => true) vs ops.size a0) w) :
    wpAny P .any ops Q ops.size (Array.replicate ops.size false) a0 { w0 with drawn := w0.drawn + 1 } :=
  wpAny_region_factsR HR F hok hF hloc (fun i o ho => region_stepR F hok hgd i o ho (stepsFrom_allR hsteps i o ho)) hfin
theorem wp_region_stepsR (HR : Later R) {id : Nat} {a0 : Act} {w0 : World} (F : Nat → (Nat → Value) → World → Prop) (hm : P.follows .mixedOrders = true)
    (hok : regionOk ops a0.tmps.size = true) (hgd : guardsOk ops = true)
    (hF : ∀ i vs w w', F i vs w → R w w' → F i vs w')
    (hloc : ∀ i vs vs' w, (∀ k, (k = i ∨ rpred ops k i = true) → vs k = vs' k) → F i vs w → F i vs' w)
    (hsteps : StepsFromR R P ops F a0 w0 0 ops.toList)
    (hfin : ∀ (vs : Nat → Value) (w : World), R w0 w → (∀ i, i < ops.size → F i vs w) → Q .normal (puts ops (fun _ => true) vs ops.size a0) w) :
    (Code.region id ops true).wp P Q a0 w0 := wp_region_any hm (wpAny_region_stepsR HR F hok hgd hF hloc hsteps hfin)

/-- **A region that draws and ends in operations that are forced**: those ahead of them each shown once, by facts that later worlds keep; the others in their order. -/
theorem wpAny_region_tailR (HR : Later R) {a0 : Act} {w0 : World} (n : Nat) (F : Nat → (Nat → Value) → World → Prop)
    (hok : regionOk ops a0.tmps.size = true) (hgd : guardsOk ops = true) (hfo : forcedB ops n = true)
    (hF : ∀ i vs w w', F i vs w → R w w' → F i vs w')
    (hloc : ∀ i vs vs' w, (∀ k, (k = i ∨ rpred ops k i = true) → vs k = vs' k) → F i vs w → F i vs' w)
    (hsteps : StepsFromR R P ops F a0 w0 0 (ops.toList.take n))
    (hfin : ∀ (vs : Nat → Value) (w : World), R w0 w → (∀ i, i < n → F i vs w) → wpList P ops Q (ops.toList.drop n) (puts ops (fun _ => true) vs n a0) w) :
    wpAny P .any ops Q ops.size (Array.replicate ops.size false) a0 { w0 with drawn := w0.drawn + 1 } := by
  unfold forcedB at hfo
  simp only [Bool.and_eq_true, decide_eq_true_eq] at hfo
  obtain ⟨⟨⟨hn, hsk⟩, hch⟩, hsq⟩ := hfo
  refine wpAny_region_coreR HR n (by omega) F hok hF hloc (fun i o hi ho => region_stepR F hok hgd i o ho ?_) (fun l inv ⟨i, hi, hun⟩ t ht => tail_waits hsk hch hn inv _ i rfl hi hun t ht) fun l vs w hs h1 h2 hb hf => ?_
  · have := stepsFrom_atR (ops.toList.take n) 0 hsteps i o (by rw [List.getElem?_take, if_pos hi]; simpa using ho)
    simpa using this
  · rw [mask_eq hs h1 h2]
    have h := wpAny_of_seq (P := P) (ops := ops) (md := .any) (Q' := Q) (ops.toList.drop n) n ((Array.range ops.size).map fun i => decide (i < n)) (puts ops (fun _ => true) vs n a0) w (fun j => by rw [List.getElem?_drop]; simp)
      (by rw [List.length_drop, Array.length_toList]; exact hsq) (hfin vs w hb hf)
    rwa [List.length_drop, Array.length_toList] at h
end
/-- What is known of a value, and stays known; 'deps': the operations whose values it speaks of besides. -/
structure FactR (R : World → World → Prop) where
  holds : (Nat → Value) → Value → World → Prop
  deps : List Nat
  stays : ∀ vs v w w', holds vs v w → R w w' → holds vs v w'
  local_ : ∀ vs vs' v w, (∀ k ∈ deps, vs k = vs' k) → holds vs v w → holds vs' v w
def FactR.any {R : World → World → Prop} : FactR R := ⟨fun _ _ _ => True, [], fun _ _ _ _ _ _ => trivial, fun _ _ _ _ _ _ => trivial⟩
def FactR.is {R : World → World → Prop} (u : Value) : FactR R := ⟨fun _ v _ => v = u, [], fun _ _ _ _ h _ => h, fun _ _ _ _ _ h => h⟩
/-- Of the value alone, and the world. -/
def FactR.of {R : World → World → Prop} (H : Value → World → Prop) (h : ∀ v w w', H v w → R w w' → H v w') : FactR R := ⟨fun _ v w => H v w, [], fun _ v w w' a b => h v w w' a b, fun _ _ _ _ _ h => h⟩
def factsR {R : World → World → Prop} (L : List (FactR R)) (i : Nat) (vs : Nat → Value) (w : World) : Prop := (L.getD i FactR.any).holds vs (vs i) w
/-- Each fact speaks of what its operation waits for alone. -/
def depsOk {R : World → World → Prop} (ops : Array Oper) (L : List (FactR R)) : Bool := (List.range L.length).all fun i => (L.getD i FactR.any).deps.all fun k => rpred ops k i
theorem factsR_local {R : World → World → Prop} {ops : Array Oper} {L : List (FactR R)} (h : depsOk ops L = true) (i : Nat) (vs vs' : Nat → Value) (w : World) (hk : ∀ k, (k = i ∨ rpred ops k i = true) → vs k = vs' k) (hf : factsR L i vs w) : factsR L i vs' w := by
  unfold factsR at *
  rw [← hk i (.inl rfl)]
  refine (L.getD i FactR.any).local_ vs vs' _ w (fun k hd => hk k (.inr ?_)) hf
  by_cases hi : i < L.length
  · unfold depsOk at h
    exact List.all_eq_true.1 (List.all_eq_true.1 h i (List.mem_range.2 hi)) k hd
  · rw [List.getD_eq_getElem?_getD, List.getElem?_eq_none (by omega)] at hd
    cases hd
theorem RCtxR.holds {R : World → World → Prop} {ops : Array Oper} {L : List (FactR R)} {a0 : Act} {i : Nat} {ρ : Operand → Value} {vs : Nat → Value} {w : World} (H : RCtxR ops (factsR L) a0 i ρ vs w) (d j : Nat) (h : writer ops i d = some j) : (L.getD j FactR.any).holds vs (ρ (.tmp d)) w := by
  rw [H.new d j h]
  exact H.fact j (writer_pred h)
theorem wpAny_region_listR {R : World → World → Prop} (HR : Later R) {P : Program} {ops : Array Oper} {Q : Exit → Act → World → Prop} {a0 : Act} {w0 : World} (L : List (FactR R)) (ds : List (Option Tmp))
    (hok : regionOk ops a0.tmps.size = true) (hgd : guardsOk ops = true) (hdp : depsOk ops L = true) (hds : ops.toList.map (·.dst) = ds) (hsteps : StepsFromR R P ops (factsR L) a0 w0 0 ops.toList)
    (hfin : ∀ (vs : Nat → Value) (w : World), R w0 w → (∀ i, i < ds.length → factsR L i vs w) → Q .normal (putAll vs ds 0 a0) w) :
    wpAny P .any ops Q ops.size (Array.replicate ops.size false) a0 { w0 with drawn := w0.drawn + 1 } :=
  wpAny_region_stepsR HR (factsR L) hok hgd (fun i vs w w' h hb => (L.getD i FactR.any).stays vs _ w w' h hb) (factsR_local hdp) hsteps (fun vs w hb h => by
    subst hds
    rw [puts_all]
    exact hfin vs w hb fun i hi => h i (by simpa using hi))
/-- The use: the relation, a fact for each operation. -/
theorem wp_region_listR {R : World → World → Prop} (HR : Later R) {P : Program} {ops : Array Oper} {Q : Exit → Act → World → Prop} {id : Nat} {a0 : Act} {w0 : World} (L : List (FactR R)) (ds : List (Option Tmp)) (hm : P.follows .mixedOrders = true)
    (hok : regionOk ops a0.tmps.size = true) (hgd : guardsOk ops = true) (hdp : depsOk ops L = true) (hds : ops.toList.map (·.dst) = ds) (hsteps : StepsFromR R P ops (factsR L) a0 w0 0 ops.toList)
    (hfin : ∀ (vs : Nat → Value) (w : World), R w0 w → (∀ i, i < ds.length → factsR L i vs w) → Q .normal (putAll vs ds 0 a0) w) :
    (Code.region id ops true).wp P Q a0 w0 := wp_region_any hm (wpAny_region_listR HR L ds hok hgd hdp hds hsteps hfin)
end Go.Proofs.YtchgpgnipmmflaaDoor

/- Arrays by value: a block that is made, loaded and stored whole. Over any program. -/





namespace Go.Proofs.YtchgpgnipmmflaaDoor

open Go.RowKit

/-- Cells that are all the same. (A name of its own: the walk's simp writes List.replicate out.) -/
def zeroRow (n : Nat) (z : Value) : List Value := List.replicate n z
theorem zeroRow_len (n : Nat) (z : Value) : (zeroRow n z).length = n := by simp [zeroRow]
/-- The facts on an array type of n elements of one cell. -/
structure ArrT (P : Program) (t e : TypeId) (n : Nat) (z : Value) : Prop where
  under : P.underlying t = some (.array n e)
  info : (P.info? t).map (fun i => (i.zero, i.size)) = some (some (.agg (zeroRow n z).toArray), n)
theorem ArrT.size_ {P : Program} {t e : TypeId} {n : Nat} {z : Value} (E : ArrT P t e n z) : (P.info? t).map (·.size) = some n := (zero_of_info E.info).2

section

variable {P : Program} {w : World} {ops : Array Oper} {rest : List Oper} {o : Oper} {a : Act} {Q : Exit → Act → World → Prop} {t e : TypeId} {n : Nat} {z : Value}
/-- A variable of an array type. -/
theorem wpList_allocArr (E : ArrT P t e n z) (hgd : o.guard = none) (ho : o.op = .alloc t)
    (h : ∀ w', Row w' w.heap.size t (zeroRow n z) → Below w.heap.size w w' → wpList P ops Q rest (a.put o.dst (.pointer (some ⟨w.heap.size, 0, none⟩))) w') : wpList P ops Q (o :: rest) a w := by
  have hz := (zero_of_info E.info).1
  refine wpList_plain hgd fun K hK => ?_
  unfold Oper.wp execOp
  simp only [ho, Instr.alloc, newVar, newRow, Sem.run_bind, Sem.run_pure, hz, Result.andThen_ok, run_newObj]
  refine hK _ _ (h _ ?_ ((Below.refl _ _).alloc (Nat.le_refl _) _))
  exact heap_alloc_new w _
/-- The whole of it loaded. -/
theorem wpList_loadArr (E : ArrT P t e n z) (hgd : o.guard = none) (x : Operand) (ho : o.op = .load t x) (g : Nat) (t' : TypeId) (cs : List Value) (hx : a.eval x = .pointer (some ⟨g, 0, none⟩)) (hr : Row w g t' cs) (hl : cs.length = n)
    (h : wpList P ops Q rest (a.put o.dst (.agg cs.toArray)) w) : wpList P ops Q (o :: rest) a w :=
  wpList_load_row hgd t x ho g hx t' cs.toArray (0, 0) _ hr E.under rfl (by rw [E.size_, ← hl]; simp) h
/-- The whole of it stored. -/
theorem wpList_storeArr (E : ArrT P t e n z) (hgd : o.guard = none) (x y : Operand) (ho : o.op = .store t x y) (g : Nat) (t' : TypeId) (old cs : List Value) (hx : a.eval x = .pointer (some ⟨g, 0, none⟩)) (hy : a.eval y = .agg cs.toArray) (hr : Row w g t' old)
    (hl : cs.length = n) (hl' : old.length = n) (h1 : ∀ u ∈ cs, u.oneCell' = true) (w0 : World) (B : Nat) (hb : Below B w0 w) (hB : B ≤ g)
    (h : ∀ w', Row w' g t' cs → Below B w0 w' → (∀ k ty l, k ≠ g → Row w k ty l → Row w' k ty l) → wpList P ops Q rest (a.put o.dst undef) w') : wpList P ops Q (o :: rest) a w := by
  have hrun := run_storeVar_row (P := P) w g t' t old.toArray cs.toArray hr (by rw [E.size_, ← hl]; simp) (by simp [hl, hl']) (by simpa using h1)
  refine wpList_plain hgd fun K hK => ?_
  unfold Oper.wp execOp
  simp only [ho, hx, hy, Instr.storeAt, Instr.sureAddr, Sem.run_bind, Sem.run_pure, Result.andThen_ok, hrun]
  refine hK _ _ (h _ (setRow_heap w g old.toArray cs.toArray t' (0, 0) hr) ?_ ?_)
  · exact below_setRow hb hB _
  · intro k ty l hk hrk
    exact (setRow_other w g k cs.toArray hk).trans hrk
end
/-- A row of which the first k cells are filled. -/
def fillTo (xs : List Value) (z : Value) (k : Nat) : List Value := xs.take k ++ List.replicate (xs.length - k) z
theorem fillTo_zero (xs : List Value) (z : Value) : fillTo xs z 0 = zeroRow xs.length z := by simp [fillTo, zeroRow]
theorem fillTo_all (xs : List Value) (z : Value) : fillTo xs z xs.length = xs := by simp [fillTo]
theorem fillTo_len (xs : List Value) (z : Value) {k : Nat} (h : k ≤ xs.length) : (fillTo xs z k).length = xs.length := by simp [fillTo]; omega
theorem fillTo_set (xs : List Value) (z : Value) {k : Nat} (h : k < xs.length) : (fillTo xs z k).set k xs[k] = fillTo xs z (k + 1) := by
  unfold fillTo
  have hl : (xs.take k).length = k := by rw [List.length_take]; omega
  obtain ⟨m, hm⟩ : ∃ m, xs.length - k = m + 1 := ⟨xs.length - k - 1, by omega⟩
  rw [List.set_append_right _ _ (by omega), hl, Nat.sub_self, hm, List.replicate_succ, List.set_cons_zero, List.take_succ_eq_append_getElem h, show xs.length - (k + 1) = m by omega, List.append_assoc]
  rfl
/-- What a function answers through a variable of an array type. -/
theorem ret_arr {P : Program} {f : Func} {p : Tmp} {t e : TypeId} {n : Nat} {z : Value} (E : ArrT P t e n z) {K : Ending → World → Prop} {a : Act} {w : World} {g : Nat} {t' : TypeId} {cs : List Value} (hf : f.results = #[.cell p t])
    (hp : a.tmps.getD p undef = .pointer (some ⟨g, 0, none⟩)) (hr : Row w g t' cs) (hl : cs.length = n) (hd : a.defers = []) (hK : K (.returned (.agg cs.toArray)) w) : bodyPost P f K .ret a w :=
  bodyPost_ret (v := .agg cs.toArray) (results_cell_row hf a.tmps w g t' cs.toArray (0, 0) _ hp hr E.under rfl (by rw [E.size_, ← hl]; simp)) hd hK
end Go.Proofs.YtchgpgnipmmflaaDoor

/- Operations on numbers in a region that draws: what each yields; slices of one number. Over any program. -/





namespace Go.Proofs.YtchgpgnipmmflaaDoor

open Go.RowKit

def Fact.vals {α : Type} (f : α → Value) (l : List α) : Fact := ⟨IsV f l, fun _ _ _ h hb => h.below hb⟩
section

variable {P : Program} {o : Oper} {ρ : Operand → Value} {w : World} {R : Value → World → Prop}
theorem gives_shl64 {t t' : TypeId} {x y : Operand} {a r : Int} {k : Nat} (ho : o.op = .binOp .shl t x y t') (hx : ρ x = .int .u64 a) (hy : ρ y = .int .i64 (k : Int)) (hk : k ≤ 64) (h : IntKind.u64.wrap (a * 2 ^ k) = r) (hR : R (.int .u64 r) w) : Gives P o ρ w R := by
  refine gives_of (v := .int .u64 r) (w' := w) ?_ hR
  simp [execOp, ho, hx, hy, go_sem, h]
theorem gives_shlI {t t' : TypeId} {x y : Operand} {a r : Int} {k : Nat} (ho : o.op = .binOp .shl t x y t') (hx : ρ x = .int .i64 a) (hy : ρ y = .int .i64 (k : Int)) (hk : k ≤ 64) (h : IntKind.i64.wrap (a * 2 ^ k) = r) (hR : R (.int .i64 r) w) : Gives P o ρ w R := by
  refine gives_of (v := .int .i64 r) (w' := w) ?_ hR
  simp [execOp, ho, hx, hy, go_sem, h]
theorem gives_andI {t t' : TypeId} {x y : Operand} {a b r : Int} (ho : o.op = .binOp .and t x y t') (hx : ρ x = .int .i64 a) (hy : ρ y = .int .i64 b) (h : bits .and .i64 a b = r) (hR : R (.int .i64 r) w) : Gives P o ρ w R := by
  refine gives_of (v := .int .i64 r) (w' := w) ?_ hR
  simp [execOp, ho, hx, hy, go_sem, h]
theorem gives_sub64 {t t' : TypeId} {x y : Operand} {a b r : Int} (ho : o.op = .binOp .sub t x y t') (hx : ρ x = .int .u64 a) (hy : ρ y = .int .u64 b) (h : IntKind.u64.wrap (a - b) = r) (hR : R (.int .u64 r) w) : Gives P o ρ w R := by
  refine gives_of (v := .int .u64 r) (w' := w) ?_ hR
  simp [execOp, ho, hx, hy, go_sem, h]
theorem gives_add64 {t t' : TypeId} {x y : Operand} {a b r : Int} (ho : o.op = .binOp .add t x y t') (hx : ρ x = .int .u64 a) (hy : ρ y = .int .u64 b) (h : IntKind.u64.wrap (a + b) = r) (hR : R (.int .u64 r) w) : Gives P o ρ w R := by
  refine gives_of (v := .int .u64 r) (w' := w) ?_ hR
  simp [execOp, ho, hx, hy, go_sem, h]
theorem gives_and64 {t t' : TypeId} {x y : Operand} {a b r : Int} (ho : o.op = .binOp .and t x y t') (hx : ρ x = .int .u64 a) (hy : ρ y = .int .u64 b) (h : bits .and .u64 a b = r) (hR : R (.int .u64 r) w) : Gives P o ρ w R := by
  refine gives_of (v := .int .u64 r) (w' := w) ?_ hR
  simp [execOp, ho, hx, hy, go_sem, h]
theorem gives_conv {s d : TypeId} {k k' : IntKind} {x : Operand} {n r : Int} (ho : o.op = .convert s d x) (hx : ρ x = .int k n) (hs : (P.underlying s).isSome = true) (hd : P.underlying d = some (.int k')) (h : k'.wrap n = r) (hR : R (.int k' r) w) : Gives P o ρ w R := by
  refine gives_convert ho hx (v := .int k' r) (w' := w) ?_ hR
  obtain ⟨e, he⟩ := Option.isSome_iff_exists.mp hs
  simp [convert, run_underlying he, run_underlying hd, Conv.intToInt, h]
/-- A slice literal of one value. -/
theorem gives_val {α : Type} {f : α → Value} {t e : TypeId} {bytes : Nat} {z : Value} (E : Elem P t e bytes z) {a : α} {x : Operand} (ho : o.op = .buildSlice t 1 #[(0, x)]) (hx : ρ x = f a) (hu : (f a).cells = #[f a]) (hR : ∀ v w', IsV f [a] v w' → Below w.heap.size w w' → R v w') : Gives P o ρ w R :=
  gives_one E ho hx hu (hR _ _ (isV_new f w e [a] 1 rfl (by omega)) ((Below.refl _ _).alloc (Nat.le_refl _) _))
end
theorem gives_xor64 {P : Program} {o : Oper} {ρ : Operand → Value} {w : World} {R : Value → World → Prop} {t t' : TypeId} {x y : Operand} {a b r : Int} (ho : o.op = .binOp .xor t x y t') (hx : ρ x = .int .u64 a) (hy : ρ y = .int .u64 b) (h : bits .xor .u64 a b = r) (hR : R (.int .u64 r) w) : Gives P o ρ w R := by
  refine gives_of (v := .int .u64 r) (w' := w) ?_ hR
  simp [execOp, ho, hx, hy, go_sem, h]
/-- x[i:k], x[i:] at a step of the walk, what it answers being known. -/
theorem wpList_sliced {P : Program} {w : World} {ops : Array Oper} {rest : List Oper} {o : Oper} {a : Act} {Q : Exit → Act → World → Prop} (hgd : o.guard = none) (t : TypeId) (x y z : Operand) (ho : o.op = .slice t x (some y) (some z) none)
    (v : Value) (hrun : (Instr.sliceAt t (a.eval x) (some (a.eval y)) (some (a.eval z)) none).run P w = .ok v w) (h : wpList P ops Q rest (a.put o.dst v) w) : wpList P ops Q (o :: rest) a w := by
  refine wpList_plain hgd fun K hK => ?_
  unfold Oper.wp execOp
  simp only [ho, Option.map_some, Option.map_none, hrun, Sem.run_bind, Sem.run_pure, Result.andThen_ok]
  exact hK _ _ h
theorem wpList_slicedL {P : Program} {w : World} {ops : Array Oper} {rest : List Oper} {o : Oper} {a : Act} {Q : Exit → Act → World → Prop} (hgd : o.guard = none) (t : TypeId) (x y : Operand) (ho : o.op = .slice t x (some y) none none)
    (v : Value) (hrun : (Instr.sliceAt t (a.eval x) (some (a.eval y)) none none).run P w = .ok v w) (h : wpList P ops Q rest (a.put o.dst v) w) : wpList P ops Q (o :: rest) a w := by
  refine wpList_plain hgd fun K hK => ?_
  unfold Oper.wp execOp
  simp only [ho, Option.map_some, Option.map_none, hrun, Sem.run_bind, Sem.run_pure, Result.andThen_ok]
  exact hK _ _ h
theorem gives_extract {P : Program} {o : Oper} {ρ : Operand → Value} {w : World} {R : Value → World → Prop} {x : Operand} {i : Nat} {vs : Array Value} {v : Value} (ho : o.op = .extract x i) (hx : ρ x = .tuple vs) (hv : vs[i]? = some v) (hR : R v w) : Gives P o ρ w R := by
  refine gives_of (v := v) (w' := w) ?_ hR
  simp [execOp, ho, hx, hv, go_sem]
end Go.Proofs.YtchgpgnipmmflaaDoor

/- Rows of structs made whole (make), copied (copy), stored into at an index; a struct's block laid and stored in a region that draws. Over any program. -/











namespace Go.Proofs.YtchgpgnipmmflaaDoor

open Go.RowKit

theorem flat_replicate {α : Type} {f : α → List Value} (n : Nat) (x : α) : (List.replicate n x).flatMap f = (List.replicate n (f x)).flatten := by
  rw [List.flatMap_def, List.map_replicate]
theorem made_cells (cs : List Value) (_hm : 0 < cs.length) (n : Nat) : (madeCells cs.toArray (n * cs.length)).toList = (List.replicate n cs).flatten := by
  induction n with
  | zero => simp [madeCells]
  | succ n ih =>
    have hs : (madeCells cs.toArray ((n + 1) * cs.length)).toList = (madeCells cs.toArray (n * cs.length)).toList ++ cs := by
      apply List.ext_getElem
      · simp [madeCells, Nat.succ_mul]
      · intro i h1 h2
        have hl : (madeCells cs.toArray (n * cs.length)).toList.length = n * cs.length := by simp [madeCells]
        have hi : i < (n + 1) * cs.length := by simpa [madeCells] using h1
        by_cases h : i < n * cs.length
        · rw [List.getElem_append_left (by rw [hl]; exact h)]
          simp [madeCells]
        · rw [List.getElem_append_right (by rw [hl]; omega)]
          simp only [hl]
          have hi2 : i - n * cs.length < cs.length := by rw [Nat.succ_mul] at hi; omega
          have hmod : i % cs.length = i - n * cs.length := by
            have e : i = (i - n * cs.length) + cs.length * n := by rw [Nat.mul_comm cs.length n]; omega
            conv => lhs; rw [e, Nat.add_mul_mod_self_left, Nat.mod_eq_of_lt hi2]
          simp [madeCells, hmod, hi2]
    rw [hs, ih, List.replicate_succ']
    simp
theorem wpList_makeW {P : Program} {w : World} {ops : Array Oper} {rest : List Oper} {o : Oper} {a : Act} {Q : Exit → Act → World → Prop} {t e : TypeId} {bytes m : Nat} {z : Value} (E : ElemW P t e bytes m z) (zc : List Value) (hzc : z.cells.toList = zc)
    (hgd : o.guard = none) (l c : Operand) (hop : o.op = Op.makeSlice t l c) (kl kc : IntKind) (L C : Int) (n : Nat) (w0 : World) (B : Nat)
    (hl : a.eval l = .int kl L) (hc : a.eval c = .int kc C) (hL : L = (n : Int)) (hC : C = (n : Int)) (hn : n ≤ 1000000000) (hby : bytes ≤ 100) (hb : Below B w0 w) (hB : B ≤ w.heap.size)
    (h : ∀ w', Row w' w.heap.size e (List.replicate n zc).flatten → Below B w0 w' → wpList P ops Q rest (a.put o.dst (.slice (some ⟨w.heap.size, 0, none⟩) n n)) w') :
    wpList P ops Q (o :: rest) a w := by
  subst hzc
  obtain ⟨i, h1, h2, h3, h4⟩ := E.info
  refine wpList_plain hgd fun K hK => ?_
  have hle : bytes * n ≤ 100 * n := Nat.mul_le_mul_right _ hby
  have hbi : (i.bytes : Int) * (n : Int) ≤ 281474976710656 := by
    rw [h4, ← Int.natCast_mul]; omega
  have hrun := run_make (P := P) w t e i z E.under h1 h2 kl kc n n (by omega) (by omega) hbi (by omega)
  subst hL
  subst hC
  unfold Oper.wp
  simp only [execOp, hop, hl, hc, hrun, Result.andThen_ok, Sem.run_bind, Sem.run_pure]
  simp only [Int.toNat_natCast, h3]
  refine hK _ _ (h _ ?_ (hb.alloc hB _))
  unfold Row
  rw [heap_alloc_new]
  congr 2
  rw [← Array.toList_inj]
  have hlen : z.cells.toList.length = m := by rw [Array.length_toList]; exact E.cells
  have hz : z.cells = z.cells.toList.toArray := by simp
  have hm := made_cells z.cells.toList (by rw [hlen]; exact E.pos) n
  rw [hlen] at hm
  rw [List.toList_toArray, ← hm]
/-- What a copy of structs leaves, of a row of the call's own. -/
theorem runW_copy_row {P : Program} (w : World) (dT sT ty elem : TypeId) (m : Nat) (g o dLen dCap : Nat) (a : Addr) (sLen sCap : Nat) (cur : Array Value) (t : TypeId) (cs : List Value)
    (hu : P.underlying dT = some (.slice elem)) (hs : (P.info? elem).map (·.size) = some m)
    (hg : w.heap[g]? = some (.cells cur t (0, 0))) (hn : cs.length = Nat.min sLen dLen * m)
    (hsrc : ∀ j v, cs[j]? = some v → w.cell? (a.add j) = some v) (hfit : o + cs.length ≤ cur.size) (h1 : ∀ v ∈ cs, v.oneCell' = true) :
    (Builtin.copy_ #[dT, sT] ty #[.slice (some ⟨g, o, none⟩) dLen dCap, .slice (some a) sLen sCap]).run P w =
      .ok (goInt (Nat.min sLen dLen)) (w.setRow g (cur.toList.take o ++ cs ++ cur.toList.drop (o + cs.length)).toArray) := by
  have hl := run_loadCells_list (P := P) w a cs hsrc
  have hst := run_storeCells_at P g o t cs 0 cur w hg (by simpa using hfit) h1
  cases hq : P.info? elem with
  | none => simp [hq] at hs
  | some i =>
    have hi : i.size = m := by simpa [hq] using hs
    simp [Builtin.copy_, run_underlying hu, Builtin.lenOf, Builtin.firstCells, sizeOf, typeInfo, hq, hi, ← hn, hl, hst]
/-- The same at a call of the walk. -/
theorem wpList_copyW {P : Program} {w : World} {ops : Array Oper} {rest : List Oper} {o : Oper} {a : Act} {Q : Exit → Act → World → Prop} {t e : TypeId} {bytes m : Nat} {z : Value} (E : ElemW P t e bytes m z)
    (hgd : o.guard = none) (d s : Operand) (ho : o.op = .call { callee := .builtin .copy, args := #[d, s], argTypes := #[t, t] })
    (g off dLen dCap : Nat) (ad : Addr) (sLen sCap : Nat) (cur src new : List Value) (hnew : cur.take off ++ src ++ cur.drop (off + src.length) = new) (k B : Nat) (w0 : World)
    (hd : a.eval d = .slice (some ⟨g, off, none⟩) dLen dCap) (hs : a.eval s = .slice (some ad) sLen sCap) (hr : Row w g e cur) (hk : Nat.min sLen dLen = k) (hm : src.length = k * m)
    (hl : ∀ j v, src[j]? = some v → w.cell? (ad.add j) = some v) (h1 : ∀ u ∈ src, u.oneCell' = true)
    (hfit : off + src.length ≤ cur.length) (hb : Below B w0 w) (hB : B ≤ g)
    (h : ∀ w', Row w' g e new → Below B w0 w' → wpList P ops Q rest (a.put o.dst (goInt k)) w') :
    wpList P ops Q (o :: rest) a w := by
  subst hnew
  obtain ⟨i, h2, h3, h4, h5⟩ := E.info
  refine wpList_plain hgd fun K hK => ?_
  have hrun := runW_copy_row (P := P) w t t o.type e m g off dLen dCap ad sLen sCap cur.toArray e src E.under (by rw [h2]; simp [h4]) hr (by rw [hk]; exact hm) hl (by simpa using hfit) h1
  rw [hk] at hrun
  unfold Oper.wp
  simp [execOp, ho, resolve, invoke, builtin, hd, hs, hrun, Result.andThen]
  exact hK _ _ (h _ (by unfold Row; rw [show cur.take off ++ src ++ cur.drop (off + src.length) = cur.take off ++ (src ++ cur.drop (off + src.length)) by simp]; simpa using setRow_heap w g _ _ e _ hr) (below_setRow hb hB _))
/-- A struct stored into a row. -/
theorem wpList_storeW {P : Program} {w : World} {ops : Array Oper} {rest : List Oper} {o : Oper} {a : Act} {Q : Exit → Act → World → Prop} (hgd : o.guard = none) (t : TypeId) (x y : Operand) (ho : o.op = .store t x y)
    (g off : Nat) (t' : TypeId) (cur cs new : List Value) (hnew : cur.take off ++ cs ++ cur.drop (off + cs.length) = new) (hx : a.eval x = .pointer (some ⟨g, off, none⟩)) (hy : a.eval y = .agg cs.toArray) (hr : Row w g t' cur) (hi : (P.info? t).map (·.size) = some cs.length)
    (hfit : off + cs.length ≤ cur.length) (h1 : ∀ u ∈ cs, u.oneCell' = true) (w0 : World) (B : Nat) (hb : Below B w0 w) (hB : B ≤ g)
    (h : ∀ w', Row w' g t' new → Below B w0 w' → (∀ k ty l, k ≠ g → Row w k ty l → Row w' k ty l) → wpList P ops Q rest (a.put o.dst undef) w') : wpList P ops Q (o :: rest) a w := by
  subst hnew
  have hst := run_storeCells_at P g off t' cs 0 cur.toArray w hr (by simpa using hfit) h1
  have hrun : (storeVar t ⟨g, off, none⟩ (.agg cs.toArray)).run P w = .ok () (w.setRow g (cur.take off ++ cs ++ cur.drop (off + cs.length)).toArray) := by
    cases hq : P.info? t with
    | none => simp [hq] at hi
    | some i =>
      have hs : cs.length = i.size := by simp [hq] at hi; omega
      have hst2 : (storeCells ⟨g, off, none⟩ cs).run P w = .ok () (w.setRow g (cur.take off ++ cs ++ cur.drop (off + cs.length)).toArray) := by simpa using hst
      simp [storeVar, sizeOf, typeInfo, hq, Value.cells, hs]
      rw [← hs]
      simpa using hst2
  refine wpList_plain hgd fun K hK => ?_
  unfold Oper.wp execOp
  simp only [ho, hx, hy, Instr.storeAt, Instr.sureAddr, Sem.run_bind, Sem.run_pure, Result.andThen_ok, hrun]
  refine hK _ _ (h _ (setRow_heap w g cur.toArray _ t' (0, 0) hr) (below_setRow hb hB _) ?_)
  intro k ty l hk hrk
  exact (setRow_other w g k _ hk).trans hrk
section

variable {P : Program} {o : Oper} {ρ : Operand → Value} {w : World} {R : Value → World → Prop}
/-- copy of structs into a row, as one operation. -/
theorem gives_copyW {t e : TypeId} {bytes m : Nat} {z : Value} (E : ElemW P t e bytes m z) {d s : Operand} (ho : o.op = .call { callee := .builtin .copy, args := #[d, s], argTypes := #[t, t] })
    {g off dLen dCap : Nat} {ad : Addr} {sLen sCap : Nat} {cur src : List Value} {k : Nat}
    (hd : ρ d = .slice (some ⟨g, off, none⟩) dLen dCap) (hs : ρ s = .slice (some ad) sLen sCap) (hr : Row w g e cur) (hk : Nat.min sLen dLen = k) (hm : src.length = k * m)
    (hl : ∀ j v, src[j]? = some v → w.cell? (ad.add j) = some v) (h1 : ∀ u ∈ src, u.oneCell' = true) (hfit : off + src.length ≤ cur.length)
    (hR : R (goInt k) (w.setRow g (cur.take off ++ src ++ cur.drop (off + src.length)).toArray)) : Gives P o ρ w R := by
  obtain ⟨i, h2, h3, h4, h5⟩ := E.info
  have hrun := runW_copy_row (P := P) w t t o.type e m g off dLen dCap ad sLen sCap cur.toArray e src E.under (by rw [h2]; simp [h4]) hr (by rw [hk]; exact hm) hl (by simpa using hfit) h1
  rw [hk] at hrun
  refine gives_of (v := goInt k) ?_ hR
  simp [execOp, ho, resolve, invoke, builtin, hd, hs, hrun, Result.andThen]
/-- A variable of a struct's type laid. -/
theorem gives_alloc {t : TypeId} {z : Value} {i : TypeInfo} (hi : P.info? t = some i) (hz : i.zero = some z) (ho : o.op = .alloc t) (hR : R (.pointer (some ⟨w.heap.size, 0, none⟩)) (w.alloc (.cells z.cells t))) : Gives P o ρ w R := by
  refine gives_of (v := .pointer (some ⟨w.heap.size, 0, none⟩)) (w' := w.alloc (.cells z.cells t)) ?_ hR
  have hz2 : (zeroValue t).run P w = .ok z w := by simp [zeroValue, typeInfo, hi, hz]
  unfold execOp
  simp only [ho, Instr.alloc, newVar, newRow, Sem.run_bind, Sem.run_pure, hz2, Result.andThen_ok, run_newObj]
  rfl
/-- The whole of a struct stored. -/
theorem gives_store_row {t t' : TypeId} {x y : Operand} {g : Nat} {old cs : List Value} (ho : o.op = .store t x y) (hx : ρ x = .pointer (some ⟨g, 0, none⟩)) (hy : ρ y = .agg cs.toArray) (hr : Row w g t' old)
    (hi : (P.info? t).map (·.size) = some cs.length) (hl : old.length = cs.length) (h1 : ∀ u ∈ cs, u.oneCell' = true) (hR : R undef (w.setRow g cs.toArray)) : Gives P o ρ w R := by
  have hrun := run_storeVar_row (P := P) w g t' t old.toArray cs.toArray hr (by simpa using hi) (by simp [hl]) (by simpa using h1)
  have h : (execOp ρ o).run P w = .ok .skip (w.setRow g cs.toArray) := by
    unfold execOp
    simp only [ho, hx, hy, Instr.storeAt, Instr.sureAddr, Sem.run_bind, Sem.run_pure, Result.andThen_ok, hrun]
  unfold Gives
  rw [h]
  exact hR
end
theorem rowAll_set {w : World} {g : Nat} {t : TypeId} {old cs : List Value} (h : Row w g t old) : Row (w.setRow g cs.toArray) g t cs := setRow_heap w g old.toArray cs.toArray t (0, 0) h
theorem rowAll_far {w : World} {g k : Nat} {t : TypeId} {l : List Value} {cs : Array Value} (hk : k ≠ g) (h : Row w k t l) : Row (w.setRow g cs) k t l := (setRow_other w g k cs hk).trans h
/-- A row made later lasts where block g alone changes. -/
theorem own_past {w w' : World} {base s n g : Nat} {e : TypeId} {v : Value} {xs : List Value} (h : w.ownsRow base e s v n xs) (hg : w.grownBy w' (some g)) (hlt : g < base) : w'.ownsRow base e s v n xs := by
  refine h.kept hg ?_
  rcases h.2 with ⟨rfl, _⟩ | ⟨g2, cap2, cur2, rfl, hge, _⟩
  · exact .inl rfl
  · refine .inr ?_
    simp only [Value.ownBlock, ne_eq, Option.some.injEq]
    omega
theorem grown_set (w : World) (g i : Nat) (v : Value) : w.grownBy (w.setCell ⟨g, i, none⟩ v) (some g) :=
  ⟨rfl, rfl, rfl, by rw [World.size_setCell]; exact Nat.le_refl _, fun k _ hne => Below.heap_setCell w _ v k (fun h => hne (by rw [h]))⟩
theorem isR_row {α : Type} {f : α → List Value} {l : List α} {w : World} {g : Nat} {t : TypeId} {m : Nat} (h : Row w g t (l.flatMap f)) (hl : l.length = m) (hm : m ≤ 1000000) : IsR f l (.slice (some ⟨g, 0, none⟩) m m) w := by
  refine ⟨some ⟨g, 0, none⟩, m, by rw [hl], fun h => by (cases h), by omega, by unfold maxLen; omega, ?_⟩
  have := h.lies 0
  rwa [List.drop_zero] at this
theorem flat_drop {α : Type} {f : α → List Value} {m : Nat} (hf : ∀ x, (f x).length = m) : ∀ (l : List α) (k : Nat), (l.drop k).flatMap f = (l.flatMap f).drop (k * m)
  | [], k => by simp
  | x :: l, 0 => by simp
  | x :: l, k + 1 => by
    rw [List.drop_succ_cons, List.flatMap_cons, flat_drop hf l k, Nat.succ_mul, List.drop_append, hf, show k * m + m - m = k * m by omega, List.drop_of_length_le (l := f x) (by rw [hf]; omega), List.nil_append]
theorem ElemW.size_ {P : Program} {t e : TypeId} {bytes m : Nat} {z : Value} (E : ElemW P t e bytes m z) (w : World) : (sizeOf e).run P w = .ok m w := by
  obtain ⟨i, h1, _, h3, _⟩ := E.info
  simp [sizeOf, typeInfo, h1, h3]
/-- x[k:] of a slice of structs, as one equation. -/
theorem fromR_named {P : Program} {α : Type} {f : α → List Value} {w : World} {t e : TypeId} {bytes m : Nat} {z : Value} (E : ElemW P t e bytes m z) (hf : ∀ x, (f x).length = m) {A : Option Addr} {n c k : Nat} {l : List α} (hk : k ≤ n) (hI : IsR f l (.slice A n c) w) :
    ∃ v, (∀ W, (Instr.sliceAt t (.slice A n c) (some (.int .i64 (k : Int))) none none).run P W = .ok v W) ∧ IsR f (l.drop k) v w := by
  obtain ⟨hxs, hA, hnc, hcm, hl⟩ := hI.parts
  have ht := E.under
  have he : P.elem t = e := by simp [Program.elem, ht]
  refine ⟨.slice (if c = k then A else A.map (·.add (k * m))) (n - k) (c - k), fun W => ?_, if c = k then A else A.map (·.add (k * m)), c - k, ?_, ?_, ?_, by omega, ?_⟩
  · rw [run_sliceAt_slice W t _ _ _ _ (by rw [he]; exact ht), run_slice_l W t A n c (by rw [he]; exact ht) .i64 (k : Int) (by omega) (by omega), he, E.size_]
    simp [sliced]
  · rw [List.length_drop, hxs]
  · intro hB
    have : A = none := by
      split at hB
      · exact hB
      · cases A with
        | none => rfl
        | some ad => simp at hB
    have := hA this
    rw [List.length_drop, hxs]
    omega
  · rw [List.length_drop, hxs]; omega
  · rw [flat_drop hf]
    have hp := E.pos
    have h1 := hl.drop (k := k * m) (cap := c * m) (by rw [flat_len hf, hxs]; exact Nat.mul_le_mul_right _ hnc)
    by_cases hc : c = k
    · subst hc; simpa using h1
    · rw [if_neg (fun h => hc (Nat.eq_of_mul_eq_mul_right hp h))] at h1
      rw [if_neg hc]; exact h1
/-- Old memory as it was; whatever block holds just these cells holds them on, and a block of their type stays one: for a region that lays a block and stores them. -/
def Keep (B : Nat) (T : TypeId) (cs : List Value) (w w' : World) : Prop := Below B w w' ∧ (∀ h, Row w h T cs → Row w' h T cs) ∧ (∀ h old, Row w h T old → old.length = cs.length → ∃ old', old'.length = cs.length ∧ Row w' h T old')
theorem keep_later (B : Nat) (T : TypeId) (cs : List Value) : Later (Keep B T cs) where
  refl := fun _ => ⟨Below.refl _ _, fun _ h => h, fun _ old h hl => ⟨old, hl, h⟩⟩
  trans := fun h1 h2 => ⟨h1.1.trans h2.1, fun k h => h2.2.1 k (h1.2.1 k h), fun k old h hl => (h1.2.2 k old h hl).elim fun o h => h2.2.2 k o h.2 h.1⟩
  draw := fun _ => ⟨⟨rfl, rfl, rfl, Nat.le_refl _, fun _ _ => rfl⟩, fun _ h => h, fun _ old h hl => ⟨old, hl, h⟩⟩
theorem Keep.of {B : Nat} {T : TypeId} {cs : List Value} {w w' : World} (hB : B ≤ w.heap.size) (h : Below w.heap.size w w') : Keep B T cs w w' :=
  ⟨h.mono hB, fun _ hr => hr.below h hr.lt, fun _ old hr hl => ⟨old, hl, hr.below h hr.lt⟩⟩
theorem Keep.self {B : Nat} {T : TypeId} {cs : List Value} (w : World) : Keep B T cs w w := (keep_later B T cs).refl w
theorem Keep.alloc {B : Nat} {T : TypeId} {cs : List Value} {w : World} (hB : B ≤ w.heap.size) (o : Obj) : Keep B T cs w (w.alloc o) := Keep.of hB ((Below.refl _ _).alloc (Nat.le_refl _) _)
theorem Keep.store {B : Nat} {T : TypeId} {cs old : List Value} {w : World} {g : Nat} (hB : B ≤ g) (hr : Row w g T old) : Keep B T cs w (w.setRow g cs.toArray) :=
  ⟨below_setRow (Below.refl _ _) hB _, fun k h => if hk : k = g then by subst hk; exact rowAll_set hr else rowAll_far hk h,
    fun k o h hl => if hk : k = g then by subst hk; exact ⟨cs, rfl, rowAll_set hr⟩ else ⟨o, hl, rowAll_far hk h⟩⟩
/-- The pointer to a variable that such a region lays. -/
def FactR.laid (B : Nat) (T : TypeId) (cs : List Value) : FactR (Keep B T cs) := FactR.of (fun v w => ∃ h old, v = .pointer (some ⟨h, 0, none⟩) ∧ B ≤ h ∧ old.length = cs.length ∧ Row w h T old)
  fun _ _ _ ⟨h, old, h1, h2, h3, h4⟩ hk => (hk.2.2 h old h4 h3).elim fun o ho => ⟨h, o, h1, h2, ho.1, ho.2⟩
/-- Operation p's pointer has what it is to have. -/
def FactR.stored (B : Nat) (T : TypeId) (cs : List Value) (p : Nat) : FactR (Keep B T cs) := ⟨fun vs _ w => ∃ h, vs p = .pointer (some ⟨h, 0, none⟩) ∧ B ≤ h ∧ Row w h T cs, [p],
  fun _ _ _ _ ⟨h, h1, h2, h3⟩ hk => ⟨h, h1, h2, hk.2.1 h h3⟩, fun _ _ _ _ hp ⟨h, h1, h2, h3⟩ => ⟨h, by rw [← hp p (by simp)]; exact h1, h2, h3⟩⟩
/-- All but block g as it was, and that holds either what it held or what it is to hold. -/
def Turn (B g : Nat) (T : TypeId) (cur new : List Value) (w w' : World) : Prop := Below B w w' ∧ (Row w g T cur → Row w' g T cur ∨ Row w' g T new) ∧ (Row w g T new → Row w' g T new)
theorem turn_later (B g : Nat) (T : TypeId) (cur new : List Value) : Later (Turn B g T cur new) where
  refl := fun _ => ⟨Below.refl _ _, .inl, id⟩
  trans := fun h1 h2 => ⟨h1.1.trans h2.1, fun h => (h1.2.1 h).elim (fun h => h2.2.1 h) (fun h => .inr (h2.2.2 h)), fun h => h2.2.2 (h1.2.2 h)⟩
  draw := fun _ => ⟨⟨rfl, rfl, rfl, Nat.le_refl _, fun _ _ => rfl⟩, .inl, id⟩
end Go.Proofs.YtchgpgnipmmflaaDoor

/- delta's own contracts: between, step, isCount, Diff, Step; math/bits.Mul laid. -/











namespace Go.Proofs.YtchgpgnipmmflaaDoor

open Go.RowKit

/-- A difference as the program holds it. -/
def dpair (p : Nat × Bool × Bool) : Nat × Bool := (p.1, p.2.1)
def dc (d : Nat × Bool) : List Value := [.int .u64 (d.1 : Int), .bool d.2]
theorem dc_len (d : Nat × Bool) : (dc d).length = 2 := rfl
theorem dc_one (d : Nat × Bool) : ∀ u ∈ dc d, u.oneCell' = true := by
  intro u hu
  unfold dc at hu
  simp at hu
  rcases hu with rfl | rfl <;> rfl
theorem dcs_one (l : List (Nat × Bool)) : ∀ u ∈ l.flatMap dc, u.oneCell' = true := by
  intro u hu
  obtain ⟨x, _, hx⟩ := List.mem_flatMap.1 hu
  exact dc_one x u hx
def dv (d : Nat × Bool) : Value := .agg (dc d).toArray
theorem Tryd.infoD : (Tryd.prog.info? 45).map (fun i => (i.zero, i.size, i.bytes)) = some (some (dv (0, false)), 2, 16) := by kernel_rfl
theorem elemD : ElemW Tryd.prog 51 45 16 2 (dv (0, false)) := by
  obtain ⟨i0, hi, hz0, hz1, hz2⟩ := info_parts Tryd.infoD
  exact ⟨Tryd.underlying51, rfl, by omega, i0, hi, hz0, hz1, hz2⟩
theorem sizeD : (Tryd.prog.info? 45).map (·.size) = some 2 := by
  obtain ⟨i0, hi, hz0, hz1, hz2⟩ := info_parts Tryd.infoD
  rw [hi, Option.map_some, hz1]
/-- The cells of a difference in a slice. -/
theorem cells2 {w : World} {ad : Addr} {k : Nat} {x : Nat × Bool} (h : ∀ i, i < 2 → w.cell? (ad.add (k * 2 + i)) = (dc x)[i]?) :
    w.cell? (ad.add (k * 2)) = some (.int .u64 (x.1 : Int)) ∧ w.cell? ⟨(ad.add (k * 2)).block, (ad.add (k * 2)).off + 1, none⟩ = some (.bool x.2) := by
  refine ⟨h 0 (by omega), ?_⟩
  have h1 := h 1 (by omega); rw [← add_add] at h1; exact h1
theorem wrap_neg {S d : Int} (hs : IntKind.u64.wrap (-S) = d) : IntKind.u64.wrap (0 - S) = d := by rw [← hs]; congr 1; omega
/-- What between answers. -/
def RetBt (p : Nat × Bool × Bool) (e : Ending) : Prop := e = .returned (.tuple #[dv (dpair p), .bool p.2.2])
theorem ret_pair {fn : Func} {p u : Tmp} (h : fn.results = #[.cell p 45, .tmp u]) (tmps : Array Value) (w : World) (g : Nat) (d : Nat × Bool) (b : Bool)
    (hp : tmps.getD p undef = .pointer (some ⟨g, 0, none⟩)) (hr : Row w g 45 (dc d)) (hu : tmps.getD u undef = .bool b) : (results fn tmps).run Tryd.prog w = .ok (.tuple #[dv d, .bool b]) w :=
  results_row_tmp h tmps w g 45 (dc d).toArray (0, 0) _ _ hp hr Tryd.underlying45 rfl sizeD hu
theorem row_under (w : World) (cs : List Value) (t : TypeId) (o : Obj) : Row ((w.alloc (.cells cs.toArray t)).alloc o) w.heap.size t cs := Row.alloc (heap_alloc_new w _) o
theorem below_two (w : World) (o o' : Obj) : Below w.heap.size w ((w.alloc o).alloc o') := ((Below.refl _ _).alloc (Nat.le_refl _) _).alloc (by simp) _
set_option maxHeartbeats 2000000 in
set_option maxRecDepth 100000 in
theorem between_any (a b : Int) (w : World) (ha : inInt a) (hb : inInt b) : Calls Tryd.prog 19 #[.int .i64 a, .int .i64 b] w fun e w' => RetBt (gdiff a b) e ∧ Below w.heap.size w w' := by
  unfold inInt at ha hb
  obtain ⟨S, hS⟩ : ∃ S : Nat, (S : Int) = IntKind.u64.wrap (b - a) := ⟨(IntKind.u64.wrap (b - a)).toNat, by rw [IntKind.wrap_u64]; omega⟩
  have hS2 : IntKind.u64.wrap (IntKind.u64.wrap b - IntKind.u64.wrap a) = (S : Int) := by rw [hS, IntKind.wrap_u64, IntKind.wrap_u64, IntKind.wrap_u64, IntKind.wrap_u64]; omega
  rw [IntKind.wrap_u64] at hS
  by_cases h : b < a
  · obtain ⟨D, hD⟩ : ∃ D : Nat, (D : Int) = a - b := ⟨(a - b).toNat, by omega⟩
    have hn : IntKind.u64.wrap (-(S : Int)) = (D : Int) := by rw [IntKind.wrap_u64]; omega
    have d1 : decide (b < a) = true := decide_eq_true h
    by_cases h2 : 9223372036854775808 ≤ (D : Int)
    · have hE : Hid (gdiff a b = (0, false, false)) := Lib.hid (by unfold gdiff; rw [if_pos h, if_pos (by omega)])
      have d2 : decide ((9223372036854775807 : Int) < (D : Int)) = true := decide_eq_true (by omega)
      clear hD ha hb hS h2
      go_enter Tryd.func19, Tryd.ntmps19
      go_wp2
      refine bodyPost_ret (ret_pair rfl _ _ _ (0, false) false rfl (row_under _ _ _ _) rfl) rfl ?_
      rw [hE.out]
      exact ⟨rfl, below_two _ _ _⟩
    · have hE : Hid (gdiff a b = (D, true, true)) := Lib.hid (by unfold gdiff; rw [if_pos h, if_neg (by omega)]; congr 1; omega)
      have d2 : decide ((9223372036854775807 : Int) < (D : Int)) = false := decide_eq_false (by omega)
      clear hD ha hb hS h2
      go_enter Tryd.func19, Tryd.ntmps19
      go_wp2
      refine bodyPost_ret (ret_pair rfl _ _ _ (D, true) true rfl (row_under _ _ _ _) rfl) rfl ?_
      rw [hE.out]
      exact ⟨rfl, below_two _ _ _⟩
  · have d1 : decide (b < a) = false := decide_eq_false h
    have hSD : (S : Int) = b - a := by omega
    by_cases h2 : 9223372036854775808 ≤ (S : Int)
    · have hE : Hid (gdiff a b = (0, false, false)) := Lib.hid (by unfold gdiff; rw [if_neg h, if_pos (by omega)])
      have d2 : decide ((9223372036854775807 : Int) < (S : Int)) = true := decide_eq_true (by omega)
      clear ha hb hS h2 hSD
      go_enter Tryd.func19, Tryd.ntmps19
      go_wp2
      refine bodyPost_ret (ret_pair rfl _ _ _ (0, false) false rfl (row_under _ _ _ _) rfl) rfl ?_
      rw [hE.out]
      exact ⟨rfl, below_two _ _ _⟩
    · have hE : Hid (gdiff a b = (S, false, true)) := Lib.hid (by unfold gdiff; rw [if_neg h, if_neg (by omega)]; congr 1; omega)
      have d2 : decide ((9223372036854775807 : Int) < (S : Int)) = false := decide_eq_false (by omega)
      clear ha hb hS h2 hSD
      go_enter Tryd.func19, Tryd.ntmps19
      go_wp2
      refine bodyPost_ret (ret_pair rfl _ _ _ (S, false) true rfl (row_under _ _ _ _) rfl) rfl ?_
      rw [hE.out]
      exact ⟨rfl, below_two _ _ _⟩
set_option maxHeartbeats 2000000 in
set_option maxRecDepth 100000 in
theorem tdiff_any (a b : Int) (w : World) (ha : inInt a) (hb : inInt b) : Calls Tryd.prog 9 #[.int .i64 a, .int .i64 b] w fun e w' => RetD (gdiff a b) e ∧ Below w.heap.size w w' := by
  have HB := Lib.hid (between_any a b w ha hb)
  generalize gdiff a b = p at HB ⊢
  obtain ⟨U, f, ok⟩ := p
  clear ha hb
  go_enter Tryd.func9, Tryd.ntmps9
  go_wp2_with fail
  refine HB.out.mono ?_
  rintro e w1 ⟨rfl, hb1⟩
  unfold dpair dv dc
  dsimp only
  go_wp2
  go_quiet (fail)
  go_wp2
  refine bodyPost_ret (results_tmp3 rfl _ _ _) rfl ?_
  exact ⟨rfl, (hb1.alloc hb1.size _).trans ⟨rfl, rfl, rfl, Nat.le_refl _, fun _ _ => rfl⟩⟩
set_option maxHeartbeats 2000000 in
set_option maxRecDepth 100000 in
theorem step_any (a : Int) (U : Nat) (f : Bool) (w : World) (ha : inInt a) (h1 : (U : Int) < 18446744073709551616) : Calls Tryd.prog 20 #[.int .i64 a, dv (U, f)] w fun e w' => RetG (gstep a U f) e ∧ Below w.heap.size w w' := by
  unfold inInt at ha
  by_cases h2 : 9223372036854775808 ≤ (U : Int)
  · have hE : Hid (gstep a U f = (0, false)) := Lib.hid (by unfold gstep; rw [if_pos h2])
    have d2 : decide ((9223372036854775807 : Int) < (U : Int)) = true := decide_eq_true (by omega)
    clear h2 h1
    unfold dv dc
    dsimp only
    go_enter Tryd.func20, Tryd.ntmps20
    go_wp2
    go_ret2
    rw [hE.out]
    exact ⟨rfl, (Below.refl _ _).alloc (Nat.le_refl _) _⟩
  · have d2 : decide ((9223372036854775807 : Int) < (U : Int)) = false := decide_eq_false (by omega)
    have hw1 : IntKind.i64.wrap (U : Int) = (U : Int) := by rw [IntKind.wrap_i64]; omega
    cases f with
    | true =>
      obtain ⟨M, hM⟩ : ∃ M, M = -(U : Int) := ⟨_, rfl⟩
      have hw2 : IntKind.i64.wrap (-(U : Int)) = M := by rw [IntKind.wrap_i64]; omega
      obtain ⟨b, hb⟩ : ∃ b, b = IntKind.i64.wrap (a + M) := ⟨_, rfl⟩
      have hw3 : IntKind.i64.wrap (a + M) = b := hb.symm
      rw [IntKind.wrap_i64] at hb
      by_cases h3 : a < -9223372036854775808 + (U : Int)
      · have hE : Hid (gstep a U true = (0, false)) := Lib.hid (by unfold gstep; rw [if_neg h2, if_pos rfl, if_pos h3])
        have d3 : decide (b < a) = false := decide_eq_false (by omega)
        have d4 : decide (M < 0) = true := decide_eq_true (by omega)
        clear h2 h1 hM hb h3 ha
        unfold dv dc
        dsimp only
        go_enter Tryd.func20, Tryd.ntmps20
        go_wp2
        go_ret2
        rw [hE.out]
        exact ⟨rfl, (Below.refl _ _).alloc (Nat.le_refl _) _⟩
      · have hE : Hid (gstep a U true = (b, true)) := Lib.hid (by unfold gstep; rw [if_neg h2, if_pos rfl, if_neg h3]; congr 1; omega)
        have d3 : decide (b < a) = decide (M < 0) := by
          by_cases h4 : M < 0
          · rw [decide_eq_true h4]; exact decide_eq_true (by omega)
          · rw [decide_eq_false h4]; exact decide_eq_false (by omega)
        clear h2 h1 hM hb h3 ha
        obtain ⟨d, hd⟩ : ∃ d, d = decide (M < 0) := ⟨_, rfl⟩
        rw [← hd] at d3
        have d4 := hd.symm
        clear hd
        unfold dv dc
        dsimp only
        cases d
        · go_enter Tryd.func20, Tryd.ntmps20
          go_wp2
          go_ret2
          rw [hE.out]
          exact ⟨rfl, (Below.refl _ _).alloc (Nat.le_refl _) _⟩
        · go_enter Tryd.func20, Tryd.ntmps20
          go_wp2
          go_ret2
          rw [hE.out]
          exact ⟨rfl, (Below.refl _ _).alloc (Nat.le_refl _) _⟩
    | false =>
      obtain ⟨b, hb⟩ : ∃ b, b = IntKind.i64.wrap (a + (U : Int)) := ⟨_, rfl⟩
      have hw3 : IntKind.i64.wrap (a + (U : Int)) = b := hb.symm
      rw [IntKind.wrap_i64] at hb
      have d4 : decide ((U : Int) < 0) = false := decide_eq_false (by omega)
      by_cases h3 : 9223372036854775807 - (U : Int) < a
      · have hE : Hid (gstep a U false = (0, false)) := Lib.hid (by unfold gstep; rw [if_neg h2, if_neg (by decide), if_pos h3])
        have d3 : decide (b < a) = true := decide_eq_true (by omega)
        clear h2 h1 hb h3 ha
        unfold dv dc
        dsimp only
        go_enter Tryd.func20, Tryd.ntmps20
        go_wp2
        go_ret2
        rw [hE.out]
        exact ⟨rfl, (Below.refl _ _).alloc (Nat.le_refl _) _⟩
      · have hE : Hid (gstep a U false = (b, true)) := Lib.hid (by unfold gstep; rw [if_neg h2, if_neg (by decide), if_neg h3]; congr 1; omega)
        have d3 : decide (b < a) = false := decide_eq_false (by omega)
        clear h2 h1 hb h3 ha
        unfold dv dc
        dsimp only
        go_enter Tryd.func20, Tryd.ntmps20
        go_wp2
        go_ret2
        rw [hE.out]
        exact ⟨rfl, (Below.refl _ _).alloc (Nat.le_refl _) _⟩
theorem tstep_any (a U : Int) (f : Bool) (w : World) (ha : inInt a) (h0 : 0 ≤ U) (h1 : U < 18446744073709551616) : Calls Tryd.prog 11 #[.int .i64 a, .int .u64 U, .bool f] w fun e w' => RetG (gstep a U.toNat f) e ∧ Below w.heap.size w w' := by
  obtain ⟨N, hN⟩ : ∃ N : Nat, U = (N : Int) := ⟨U.toNat, by omega⟩
  subst hN
  have HS := Lib.hid (step_any a N f w ha h1)
  clear ha h0 h1
  rw [Int.toNat_natCast]
  unfold dv dc at HS
  dsimp only at HS
  go_enter Tryd.func11, Tryd.ntmps11
  go_wp2_with fail
  refine HS.out.mono ?_
  rintro e w1 ⟨rfl, hb1⟩
  go_wp2
  go_ret2
  exact ⟨rfl, hb1⟩
theorem tcount_yes (n : Int) (w : World) (h0 : 2 ≤ n) (h1 : n ≤ 512) : Calls Tryd.prog 21 #[.int .i64 n] w fun e w' => e = .returned (.bool true) ∧ w = w' := by
  go_enter Tryd.func21, Tryd.ntmps21
  go_wp2
  go_ret
  exact ⟨rfl, rfl⟩
theorem tcount_no (n : Int) (w : World) (h : n < 2 ∨ 512 < n) : Calls Tryd.prog 21 #[.int .i64 n] w fun e w' => e = .returned (.bool false) ∧ w = w' := by
  rcases h with h | h
  · have h2 : decide (2 ≤ n) = false := by simp; omega
    go_enter Tryd.func21, Tryd.ntmps21
    go_wp2
    go_ret
    exact ⟨rfl, rfl⟩
  · have h2 : decide (n ≤ 512) = false := by simp; omega
    have h3 : decide (2 ≤ n) = true := by simp; omega
    go_enter Tryd.func21, Tryd.ntmps21
    go_wp2
    go_ret
    exact ⟨rfl, rfl⟩
/-- The least of some numbers. -/
def lmin : List Int → Int
  | [] => 0
  | x :: xs => xs.foldl min x
theorem lmin_snoc {l : List Int} (hl : l ≠ []) (x : Int) : lmin (l ++ [x]) = min (lmin l) x := by
  cases l with
  | nil => exact absurd rfl hl
  | cons y ys => simp [lmin, List.foldl_append]
theorem lmin_neg {l : List Int} (hl : l ≠ []) : lmin l < 0 ↔ ∃ x ∈ l, x < 0 := by
  cases l with
  | nil => exact absurd rfl hl
  | cons y ys =>
    show ys.foldl min y < 0 ↔ _
    induction ys generalizing y with
    | nil => simp
    | cons z zs ih =>
      rw [List.foldl_cons, ih (min y z) (by simp)]
      simp only [List.mem_cons, exists_eq_or_imp]
      constructor
      · rintro (h | h)
        · rcases (by omega : y < 0 ∨ z < 0) with h | h
          · exact .inl h
          · exact .inr (.inl h)
        · exact .inr (.inr h)
      · rintro (h | h | h)
        · exact .inl (by omega)
        · exact .inl (by omega)
        · exact .inr h
def MinRel (l : List Int) (m i : Value) : Prop := ∃ (k : Nat) (x : Int), 1 ≤ k ∧ k ≤ l.length ∧ i = .int .i64 (k : Int) ∧ m = .int .i64 x ∧ x = lmin (l.take k)
set_option maxRecDepth 100000 in
theorem min_any (l : List Int) (v : Value) (w : World) (hv : IsV iv l v w) (h1 : 1 ≤ l.length) (hb : l.length ≤ 1000000) :
    Calls Tryd.prog 22 #[v] w fun e w' => e = .returned (.int .i64 (lmin l)) ∧ w = w' := by
  obtain ⟨A, n, c, rfl⟩ := hv.shape
  have HN := Lib.hid hv.len
  have HV := Lib.hid hv
  have hn : 1 ≤ n := by have := HN.out; omega
  have hn6 : n ≤ 1000000 := by have := HN.out; omega
  obtain ⟨ad, rfl, _, h0⟩ := hv.at (k := 0) h1
  obtain ⟨x0, hx0⟩ : ∃ x, x = l[0] := ⟨_, rfl⟩
  have h0' : w.cell? ad = some (.int .i64 l[0]) := by have := h0; simp [Addr.add, iv] at this; exact this
  have HS := Lib.hid (show MinRel l (.int .i64 l[0]) (.int .i64 1) from ⟨1, _, Nat.le_refl _, h1, rfl, rfl, by cases l with | nil => simp at h1 | cons a t => simp [lmin]⟩)
  rw [← hx0] at h0' HS
  clear hv h1 hb h0 hx0
  go_enter Tryd.func22, Tryd.ntmps22
  go_wp2
  go_loop [3, 4] (MinRel l) (fun _ i => n - (intOf i).toNat)
  case atStart => exact HS.out
  case round =>
    obtain ⟨k, x, hk1, hk2, rfl, rfl, hx⟩ := hrel
    have HX := Lib.hid hx
    have hkn : k ≤ n := by have := HN.out; omega
    clear hx
    by_cases hlt : k < n
    · have hkl : k < l.length := by have := HN.out; omega
      have hlti : (k : Int) < (n : Int) := by omega
      obtain ⟨ad', had, _, hc⟩ := HV.out.at hkl
      injection had with had
      subst had
      obtain ⟨y, hy⟩ : ∃ y, y = l[k] := ⟨_, rfl⟩
      rw [← hy] at hc
      unfold iv at hc
      obtain ⟨z, hz⟩ : ∃ z, z = min x y := ⟨_, rfl⟩
      have hmin : ∀ (ts : Array TypeId) (t : TypeId) (W : World), (Builtin.min_ ts t #[.int .i64 x, .int .i64 y]).run Tryd.prog W = .ok (.int .i64 z) W := fun ts t W => by
        rw [run_min_int2]
        congr 2
        rw [hz]
        split <;> omega
      have HR := Lib.hid (show MinRel l (.int .i64 z) (.int .i64 ((k + 1 : Nat) : Int)) from ⟨k + 1, _, by omega, hkl, rfl, rfl, by
        rw [List.take_succ_eq_append_getElem hkl, lmin_snoc (by intro h0; have h1 := congrArg List.length h0; rw [List.length_take, List.length_nil] at h1; omega), ← HX.out, ← hy, hz]⟩)
      clear hy hz
      go_wp2
      go_round
      case rel => exact HR.out
      case measure => simp [intOf]; omega
    · obtain rfl : k = n := by omega
      go_wp2
      go_ret
      refine ⟨?_, rfl⟩
      rw [HX.out, List.take_of_length_le (by have := HN.out; omega)]
      rfl
/-- Differences that a call answers, in a row of its own. -/
def diffAt (l : List Int) (i : Nat) : Nat × Bool × Bool := gdiff (l.getD i 0) (l.getD (i + 1) 0)
def AreRel (l : List (Nat × Bool)) (w : World) (i : Value) (wr : World) : Prop := ∃ k : Nat, k ≤ l.length ∧ i = .int .i64 (k : Int) ∧ (∀ j, j < k → l[j]? = l[0]?) ∧ Below w.heap.size w wr
/-- Is each the first one? -/
def dsame (l : List (Nat × Bool)) : Bool := l.all fun d => d == l.headD (0, false)
theorem dsame_yes {l : List (Nat × Bool)} (h : ∀ j, j < l.length → l[j]? = l[0]?) : dsame l = true := by
  unfold dsame
  rw [List.all_eq_true]
  intro d hd
  obtain ⟨j, hj, rfl⟩ := List.getElem_of_mem hd
  have h1 := h j hj
  rw [List.getElem?_eq_getElem hj] at h1
  cases l with
  | nil => simp at hj
  | cons a t => simp at h1; simp [h1]
theorem dsame_no {l : List (Nat × Bool)} {j : Nat} (hj : j < l.length) (h : l[j]? ≠ l[0]?) : dsame l = false := by
  unfold dsame
  rw [List.all_eq_false]
  refine ⟨l[j], List.getElem_mem hj, ?_⟩
  rw [List.getElem?_eq_getElem hj] at h
  cases l with
  | nil => simp at hj
  | cons a t => simp at h; simpa using h
theorem eqD (a b : Nat × Bool) (w : World) : (Op.equalIn 10000 45 (dv a) (dv b)).run Tryd.prog w = .ok (a == b) w := by
  have hS : Tryd.prog.underlying 45 = some (.struct (Tryd.prog.fieldsOf 45)) := by kernel_rfl
  have hp : Tryd.prog.stoodInHeld 45 = false := by kernel_rfl
  obtain ⟨au, af⟩ := a
  obtain ⟨bu, bf⟩ := b
  unfold dv dc
  have u1 := Tryd.underlying23
  have u2 := Tryd.underlying4
  have s1 := Tryd.sizeOf23
  have s2 := Tryd.sizeOf4
  have g1 := Tryd.isAgg23
  have g2 := Tryd.isAgg4
  rw [show (10000 : Nat) = 9999 + 1 from rfl, run_equalIn_agg w 9999 45 _ _ hS hp]
  simp only [Program.fieldsOf, Tryd.underlying45]
  go_simp
  by_cases h1 : au = bu
  · subst h1
    rw [if_pos rfl]
    cases af <;> cases bf <;> simp
  · have h3 : ¬ (au : Int) = (bu : Int) := by omega
    rw [if_neg h3]
    have h4 : ((au, af) == (bu, bf)) = false := by
      rw [beq_eq_false_iff_ne]
      intro h
      injection h with h _
      exact h1 h
    rw [h4]
theorem gives_neqD {o : Oper} {ρ : Operand → Value} {w : World} {R : Value → World → Prop} {x y : Operand} {a b : Nat × Bool} (ho : o.op = .binOp .neq 45 x y 45) (hx : ρ x = dv a) (hy : ρ y = dv b)
    (hR : R (.bool (!(a == b))) w) : Gives Tryd.prog o ρ w R := by
  refine gives_of (v := .bool (!(a == b))) (w' := w) ?_ hR
  have hg := run_eqGuard_agg (P := Tryd.prog) w .neq 45 x y (dc a).toArray (dc b).toArray (by kernel_rfl)
  have hq := run_neq_struct (P := Tryd.prog) w 45 (dc a).toArray (dc b).toArray
  have he := eqD a b w
  unfold dv at he
  rw [he] at hq
  unfold dv at hx hy
  simp [execOp, ho, hx, hy, hg, hq]
set_option maxHeartbeats 2000000 in
set_option maxRecDepth 100000 in
theorem aresame_any (l : List (Nat × Bool)) (v : Value) (w : World) (hv : IsR dc l v w) (hb : l.length ≤ 1000000) :
    Calls Tryd.prog 45 #[v] w fun e w' => e = .returned (.bool (dsame l)) ∧ Below w.heap.size w w' := by
  obtain ⟨A, n, c, rfl⟩ := hv.shape
  have HN := Lib.hid hv.parts.1
  have HV := Lib.hid hv
  have hn6 : n ≤ 1000000 := by have := HN.out; omega
  have HS := Lib.hid (show AreRel l w (.int .i64 0) w from ⟨0, Nat.zero_le _, rfl, fun j hj => by omega, Below.refl _ _⟩)
  clear hv hb
  go_enter Tryd.func45, Tryd.ntmps45
  go_wp2
  go_loopw [7] (AreRel l w) (fun i _ => n - (intOf i).toNat)
  case atStart => exact HS.out
  case round =>
    obtain ⟨k, hk, rfl, hs, hbw⟩ := hrel
    have HSM := Lib.hid hs
    have HB := Lib.hid hbw
    have hkn : k ≤ n := by have := HN.out; omega
    clear hs hk
    by_cases hlt : k < n
    · have hkl : k < l.length := by have := HN.out; omega
      have h0l : 0 < l.length := by omega
      have hlti : (k : Int) < (n : Int) := by omega
      have h0i : (0 : Int) < (n : Int) := by omega
      obtain ⟨ad, rfl, had, hcell⟩ := (HV.out.below hbw).at (m := 2) dc_len (by omega) hkl
      obtain ⟨x, hx⟩ : ∃ x, x = l[k] := ⟨_, rfl⟩
      rw [← hx] at hcell
      have k0 := cells2 hcell
      have HX := Lib.hid hx
      obtain ⟨xu, xf⟩ := x
      dsimp only at k0
      obtain ⟨k1, k2⟩ := k0
      clear hcell hx hbw
      have HR := Lib.hid (show Row (wr.alloc (.cells #[.int .u64 (xu : Int), .bool xf] 45)) wr.heap.size 45 (dc (xu, xf)) from heap_alloc_new wr _)
      have HBA := Lib.hid (HB.out.alloc HB.out.size (.cells #[.int .u64 (xu : Int), .bool xf] 45))
      obtain ⟨y, hy⟩ : ∃ y, y = l[0] := ⟨_, rfl⟩
      have HY := Lib.hid hy
      clear hy
      obtain ⟨b, hb⟩ : ∃ b, b = !((xu, xf) == y) := ⟨_, rfl⟩
      have HEQ := Lib.hid hb
      clear hb
      go_wp2
      refine wp_region_list [.is (dv (xu, xf)), .is (.slice (some ad) n c), .is (.pointer (some (ad.add (0 * 2)))), .is (dv y), .is (.bool b)] [some 11, some 12, some 13, some 14, some 15] (by kernel_rfl) (by kernel_rfl) (by kernel_rfl) rfl ⟨?_, ?_, ?_, ?_, ?_, trivial⟩ ?_
      · intro ρ W1 hb1 H
        exact gives_load_row (cs := dc (xu, xf)) rfl (H.old 4 _ (by kernel_rfl) rfl) Tryd.underlying45 rfl sizeD (HR.out.below hb1 HR.out.lt) ⟨rfl, Below.refl _ _⟩
      · intro ρ W1 hb1 H
        exact gives_move rfl (H.old 0 _ (by kernel_rfl) rfl) ⟨rfl, Below.refl _ _⟩
      · intro ρ W1 hb1 H
        exact gives_index_wide (k := 0) Tryd.underlying51 Tryd.sizeOf45 rfl (H.new 12 1 (by kernel_rfl)) (H.const _) (by omega) ⟨rfl, Below.refl _ _⟩
      · intro ρ W1 hb1 H
        obtain ⟨ad0, had0, had1, hcell0⟩ := (HV.out.below (HBA.out.trans (hb1.mono HBA.out.size))).at (m := 2) dc_len (by omega) h0l
        injection had0 with had0
        subst had0
        exact gives_load_wide (cs := dc y) rfl (H.new 13 2 (by kernel_rfl)) Tryd.underlying45 rfl Tryd.sizeOf45 (fun j v hj => by
          have hj2 : j < 2 := by have := (List.getElem?_eq_some_iff.1 hj).1; exact this
          have h := hcell0 j hj2
          rw [← HY.out] at h
          rw [add_add]
          exact h.trans hj) ⟨rfl, Below.refl _ _⟩
      · intro ρ W1 hb1 H
        exact gives_neqD rfl (H.new 11 0 (by kernel_rfl)) (H.new 14 3 (by kernel_rfl)) ⟨by rw [HEQ.out]; rfl, Below.refl _ _⟩
      · intro vs W1 hb1 hfs
        have f4 : vs 4 = .bool b := hfs 4 (by decide)
        clear hfs
        simp only [putAll, Nat.zero_add, Nat.reduceAdd]
        generalize vs 0 = z0
        generalize vs 1 = z1
        generalize vs 2 = z2
        generalize vs 3 = z3
        simp only [f4, Act.put, List.setIfInBounds_toArray, List.set_cons_succ, List.set_cons_zero]
        have HB1 := Lib.hid (HBA.out.trans (hb1.mono HBA.out.size))
        clear f4 hb1
        cases b with
        | true =>
          have HD := Lib.hid (show dsame l = false from dsame_no hkl (by
            rw [List.getElem?_eq_getElem hkl, List.getElem?_eq_getElem h0l, ← HX.out, ← HY.out]
            intro h
            injection h with h
            rw [h] at HEQ
            have := HEQ.out
            simp at this))
          go_wp2
          go_ret
          rw [HD.out]
          exact ⟨rfl, HB1.out⟩
        | false =>
          have HK := Lib.hid (show ∀ j, j < k + 1 → l[j]? = l[0]? from fun j hj => by
            rcases (by omega : j < k ∨ j = k) with h | rfl
            · exact HSM.out j h
            · rw [List.getElem?_eq_getElem hkl, List.getElem?_eq_getElem h0l, ← HX.out, ← HY.out]
              have := HEQ.out
              simp at this
              rw [this])
          go_wp2
          go_roundw
          case rel => exact ⟨k + 1, hkl, by go_num, HK.out, HB1.out⟩
          case measure => simp [intOf]; omega
    · obtain rfl : k = n := by omega
      have HD := Lib.hid (dsame_yes (l := l) (fun j hj => HSM.out j (by have := HN.out; omega)))
      go_wp2
      go_ret
      rw [HD.out]
      exact ⟨rfl, HB.out⟩
end Go.Proofs.YtchgpgnipmmflaaDoor

/- delta's own contracts: goOneWay, with slices.ContainsFunc, slices.IndexFunc and its closure; diffsOf. -/



namespace Go.Proofs.YtchgpgnipmmflaaDoor

open Go.RowKit

def dturns (down : Bool) (d : Nat × Bool) : Bool := d.1 != 0 && d.2 != down
set_option maxRecDepth 100000 in
theorem lit_any (d : Nat × Bool) (b : Nat) (down : Bool) (w : World) (hr : Row w b 4 [.bool down]) :
    Calls Tryd.prog 44 #[dv d, .pointer (some ⟨b, 0, none⟩)] w fun e w' => e = .returned (.bool (dturns down d)) ∧ Below w.heap.size w w' := by
  obtain ⟨U, f⟩ := d
  have hc := (hr.alloc (.cells #[.int .u64 (U : Int), .bool f] 45)).cell 0
  have hc2 : (w.alloc (.cells #[.int .u64 (U : Int), .bool f] 45)).cell? ⟨b, 0, none⟩ = some (.bool down) := hc
  clear hc
  unfold dv dc dturns
  dsimp only
  by_cases h0 : U = 0
  · subst h0
    go_enter Tryd.func44, Tryd.ntmps44
    go_wp2
    go_ret
    exact ⟨rfl, (Below.refl _ _).alloc (Nat.le_refl _) _⟩
  · have h1 : ((U : Int) != 0) = true := by simp; omega
    have h2 : (U != 0) = true := by simpa using h0
    rw [h2]
    go_enter Tryd.func44, Tryd.ntmps44
    go_wp2
    go_ret
    exact ⟨by cases f <;> cases down <;> rfl, (Below.refl _ _).alloc (Nat.le_refl _) _⟩
def IdxRel (l : List (Nat × Bool)) (p : Nat × Bool → Bool) (w : World) (i : Value) (wr : World) : Prop := ∃ k : Nat, k ≤ l.length ∧ i = .int .i64 (k : Int) ∧ (l.take k).any p = false ∧ Below w.heap.size w wr
set_option maxHeartbeats 2000000 in
set_option maxRecDepth 100000 in
theorem index_any (l : List (Nat × Bool)) (v : Value) (b : Nat) (down : Bool) (w : World) (hv : IsR dc l v w) (hr : Row w b 4 [.bool down]) (hb : l.length ≤ 1000000) :
    Calls Tryd.prog 66 #[v, .func (.func 44) #[] #[.pointer (some ⟨b, 0, none⟩)]] w
      fun e w' => (∃ r : Int, e = .returned (.int .i64 r) ∧ decide (0 ≤ r) = l.any (dturns down)) ∧ Below w.heap.size w w' := by
  obtain ⟨A, n, c, rfl⟩ := hv.shape
  have HN := Lib.hid hv.parts.1
  have HV := Lib.hid hv
  have HR := Lib.hid hr
  have hn6 : n ≤ 1000000 := by have := HN.out; omega
  have HS := Lib.hid (show IdxRel l (dturns down) w (.int .i64 0) w from ⟨0, Nat.zero_le _, rfl, rfl, Below.refl _ _⟩)
  clear hv hb hr
  go_enter Tryd.func66, Tryd.ntmps66
  go_wp2
  go_loopw [8] (IdxRel l (dturns down) w) (fun i _ => n - (intOf i).toNat)
  case atStart => exact HS.out
  case round =>
    obtain ⟨k, hk, rfl, hs, hbw⟩ := hrel
    have HSM := Lib.hid hs
    have HB := Lib.hid hbw
    have hkn : k ≤ n := by have := HN.out; omega
    clear hs hk
    by_cases hlt : k < n
    · have hkl : k < l.length := by have := HN.out; omega
      have hlti : (k : Int) < (n : Int) := by omega
      obtain ⟨ad, rfl, had, hcell⟩ := (HV.out.below hbw).at (m := 2) dc_len (by omega) hkl
      obtain ⟨x, hx⟩ : ∃ x, x = l[k] := ⟨_, rfl⟩
      rw [← hx] at hcell
      have k0 := cells2 hcell
      have HX := Lib.hid hx
      have HL := Lib.hid (lit_any x b down wr (HR.out.below hbw HR.out.lt))
      have HSN := Lib.hid (show (l.take (k + 1)).any (dturns down) = dturns down x by rw [List.take_succ_eq_append_getElem hkl, List.any_append, HSM.out, hx]; simp)
      have HAL := Lib.hid (show dturns down x = true → l.any (dturns down) = true from fun h => List.any_eq_true.2 ⟨x, by rw [hx]; exact List.getElem_mem hkl, h⟩)
      obtain ⟨xu, xf⟩ := x
      dsimp only at k0
      obtain ⟨k1, k2⟩ := k0
      clear hcell hx hbw
      generalize hq : dturns down (xu, xf) = q at HL HSN HAL
      clear hq
      unfold dv dc at HL
      dsimp only at HL
      cases q with
      | true =>
        have HA := Lib.hid (HAL.out rfl)
        go_wp2_with (go_at_call 44; refine HL.out.mono ?_; rintro e w1 ⟨rfl, hb1⟩)
        go_ret
        exact ⟨⟨_, rfl, by rw [HA.out]; exact decide_eq_true (by omega)⟩, below_then HB.out hb1⟩
      | false =>
        go_wp2_with (go_at_call 44; refine HL.out.mono ?_; rintro e w1 ⟨rfl, hb1⟩)
        go_roundw
        case rel => exact ⟨k + 1, hkl, by go_num, HSN.out, below_then HB.out hb1⟩
        case measure => simp [intOf]; omega
    · obtain rfl : k = n := by omega
      have HA := Lib.hid HSM.out
      rw [List.take_of_length_le (by have := HN.out; omega)] at HA
      go_wp2
      go_ret
      exact ⟨⟨_, rfl, by rw [HA.out]; rfl⟩, HB.out⟩
theorem contains_any (l : List (Nat × Bool)) (v : Value) (b : Nat) (down : Bool) (w : World) (hv : IsR dc l v w) (hr : Row w b 4 [.bool down]) (hb : l.length ≤ 1000000) :
    Calls Tryd.prog 43 #[v, .func (.func 44) #[] #[.pointer (some ⟨b, 0, none⟩)]] w
      fun e w' => e = .returned (.bool (l.any (dturns down))) ∧ Below w.heap.size w w' := by
  have HI := Lib.hid (index_any l v b down w hv hr hb)
  clear hv hr hb
  go_enter Tryd.func43, Tryd.ntmps43
  go_wp2_with fail
  refine HI.out.mono ?_
  rintro e w1 ⟨⟨r, rfl, hr⟩, hb1⟩
  go_wp2
  go_ret
  exact ⟨rfl, hb1⟩
/-- Do all go where the first one says? -/
def dway (l : List (Nat × Bool)) : Bool := !(l.any (dturns (l.headD (0, false)).2))
set_option maxRecDepth 100000 in
theorem way_any (l : List (Nat × Bool)) (v : Value) (w : World) (hv : IsR dc l v w) (h1 : 1 ≤ l.length) (hb : l.length ≤ 1000000) :
    Calls Tryd.prog 24 #[v] w fun e w' => e = .returned (.bool (dway l)) ∧ Below w.heap.size w w' := by
  obtain ⟨A, n, c, rfl⟩ := hv.shape
  have HN := Lib.hid hv.parts.1
  have h0i : (0 : Int) < (n : Int) := by have := HN.out; omega
  obtain ⟨ad, rfl, had, hcell⟩ := hv.at (m := 2) dc_len (by omega) (k := 0) h1
  have k0 := cells2 hcell
  rw [Nat.zero_mul] at k0
  have k2 := k0.2
  have ha0 : ad.add 0 = ad := by simp [Addr.add]
  rw [ha0] at k2
  obtain ⟨down, hd⟩ : ∃ down, down = l[0].2 := ⟨_, rfl⟩
  rw [← hd] at k2
  have HW := Lib.hid (show dway l = !(l.any (dturns down)) by
    unfold dway
    rw [hd]
    cases l with
    | nil => simp at h1
    | cons a t => rfl)
  have HB := Lib.hid ((Below.refl w.heap.size w).alloc (Nat.le_refl _) (.cells #[.bool down] 4))
  have HC := Lib.hid (contains_any l (.slice (some ad) n c) w.heap.size down (w.alloc (.cells #[.bool down] 4)) (hv.below ((Below.refl _ _).alloc (Nat.le_refl _) _)) (heap_alloc_new w _) hb)
  generalize l.any (dturns down) = q at HW HC
  clear hv h1 hb hcell k0 hd
  go_enter Tryd.func24, Tryd.ntmps24
  go_wp2_with (go_at_call 43; refine HC.out.mono ?_; rintro e w1 ⟨rfl, hb1⟩)
  go_ret
  rw [HW.out]
  exact ⟨rfl, HB.out.trans (hb1.mono HB.out.size)⟩
def gpairs (l : List Int) (k : Nat) : List (Nat × Bool) := (List.range k).map fun i => dpair (diffAt l i)
theorem gpairs_len (l : List Int) (k : Nat) : (gpairs l k).length = k := by unfold gpairs; rw [List.length_map, List.length_range]
theorem gpairs_succ (l : List Int) (k : Nat) : gpairs l (k + 1) = gpairs l k ++ [dpair (diffAt l k)] := by unfold gpairs; rw [List.range_succ, List.map_append]; rfl
theorem dflat_len (l : List (Nat × Bool)) : (l.flatMap dc).length = l.length * 2 := flat_len dc_len l
/-- What diffsOf answers. -/
def RetDs (l : List Int) (w : World) (e : Ending) (w' : World) : Prop :=
  ((∀ i, i + 1 < l.length → (diffAt l i).2.2 = true) ∧ ∃ v, e = .returned (.tuple #[v, .bool true]) ∧ IsR dc (gpairs l (l.length - 1)) v w' ∧ Below w.heap.size w w') ∨
  ((∃ i, i + 1 < l.length ∧ (diffAt l i).2.2 = false) ∧ e = .returned (.tuple #[.slice none 0 0, .bool false]) ∧ Below w.heap.size w w')
def DfRel (l : List Int) (g m : Nat) (w : World) (i : Value) (wr : World) : Prop := ∃ (k : Nat) (rest : List Value), k ≤ m ∧ i = .int .i64 (k : Int) ∧ (∀ j, j < k → (diffAt l j).2.2 = true) ∧
  rest.length = (m - k) * 2 ∧ Row wr g 45 ((gpairs l k).flatMap dc ++ rest) ∧ Below w.heap.size w wr
set_option maxHeartbeats 4000000 in
set_option maxRecDepth 100000 in
theorem diffs_any (l : List Int) (v : Value) (w : World) (hv : IsV iv l v w) (hl : ∀ x ∈ l, inInt x) (h2 : 2 ≤ l.length) (hb : l.length ≤ 1000000) :
    Calls Tryd.prog 23 #[v] w (RetDs l w) := by
  obtain ⟨A, n, c, rfl⟩ := hv.shape
  have HN := Lib.hid hv.len
  have HV := Lib.hid hv
  have HL := Lib.hid hl
  obtain ⟨m, hm⟩ : ∃ m, n = m + 1 := ⟨n - 1, by have := HN.out; omega⟩
  subst hm
  have hm6 : m ≤ 1000000 := by have := HN.out; omega
  have hmi : IntKind.i64.wrap (((m + 1 : Nat) : Int) - 1) = (m : Int) := by rw [IntKind.wrap_i64]; omega
  clear hv h2 hb hl
  go_enter Tryd.func23, Tryd.ntmps23
  go_wp2_with (refine wpList_makeW elemD (dc (0, false)) rfl rfl _ _ rfl _ _ _ _ m w w.heap.size rfl rfl rfl rfl (by omega) (by omega) (Below.refl _ _) (Nat.le_refl _) ?_)
  intro w1 hr1 hb1
  have HS := Lib.hid (show DfRel l w.heap.size m w (.int .i64 0) w1 from ⟨0, (List.replicate m (dc (0, false))).flatten, Nat.zero_le _, rfl, fun j hj => by omega, by rw [← flat_replicate (f := dc) m (0, false), dflat_len, List.length_replicate, Nat.sub_zero], hr1, hb1⟩)
  clear hr1 hb1
  go_wp2
  go_loopw [14] (DfRel l w.heap.size m w) (fun i _ => m - (intOf i).toNat)
  case atStart => exact HS.out
  case round =>
    obtain ⟨k, rest, hk, rfl, hok, hrl, hrow, hbw⟩ := hrel
    have HB := Lib.hid hbw
    have HOK := Lib.hid hok
    have HRL := Lib.hid hrl
    have HROW := Lib.hid hrow
    have hgw := hrow.lt
    clear hok hrl hrow
    by_cases hlt : k < m
    · have hkl : k < l.length := by have := HN.out; omega
      have hkl1 : k + 1 < l.length := by have := HN.out; omega
      have hlti : (k : Int) < (m : Int) := by omega
      obtain ⟨ad, hA, had, hc0⟩ := (HV.out.below hbw).at hkl
      obtain ⟨ad', hA', had', hc1⟩ := (HV.out.below hbw).at hkl1
      subst hA
      injection hA' with hA'
      subst hA'
      obtain ⟨a, ha⟩ : ∃ a, a = l[k] := ⟨_, rfl⟩
      obtain ⟨b, hb⟩ : ∃ b, b = l[k + 1] := ⟨_, rfl⟩
      have hai : inInt a := by rw [ha]; exact HL.out _ (List.getElem_mem hkl)
      have hbi : inInt b := by rw [hb]; exact HL.out _ (List.getElem_mem hkl1)
      have hdf : diffAt l k = gdiff a b := by
        unfold diffAt
        rw [List.getD_eq_getElem?_getD, List.getD_eq_getElem?_getD, List.getElem?_eq_getElem hkl, List.getElem?_eq_getElem hkl1, ha, hb]
        rfl
      have HC0 := Lib.hid hc0
      have HC1 := Lib.hid hc1
      rw [← ha] at HC0
      rw [← hb] at HC1
      have HD := Lib.hid hdf
      have HBT := Lib.hid (fun W => between_any a b W hai hbi)
      rw [← hdf] at HBT
      obtain ⟨x, ok, hx⟩ : ∃ x ok, x = dpair (diffAt l k) ∧ ok = (diffAt l k).2.2 := ⟨_, _, rfl, rfl⟩
      unfold RetBt at HBT
      rw [← hx.1, ← hx.2] at HBT
      have HX := Lib.hid hx
      clear hx hdf hc0 hc1 ha hb hai hbi
      go_wp2
      have hcc0 : ∀ W1, Below wr.heap.size wr W1 → W1.cell? (ad.add k) = some (.int .i64 a) := fun W1 h => by rw [h.cell (by rw [add_block]; exact had), HC0.out]; rfl
      have hcc1 : ∀ W1, Below wr.heap.size wr W1 → W1.cell? (ad.add (k + 1)) = some (.int .i64 b) := fun W1 h => by rw [h.cell (by rw [add_block]; exact had), HC1.out]; rfl
      refine wp_region_listR (keep_later wr.heap.size 45 (dc x)) [.is (.slice (some ad) (m + 1) c), .is (.int .i64 (k : Int)), .is (.pointer (some (ad.add k))), .is (.int .i64 a), .is (.slice (some ad) (m + 1) c), .is (.int .i64 (k : Int)), .is (.int .i64 ((k : Int) + 1)), .is (.pointer (some (ad.add (k + 1)))), .is (.int .i64 b),
        .is (.tuple #[dv x, .bool ok]), .is (.tuple #[dv x, .bool ok]), .is (dv x), .is (.bool ok), .laid wr.heap.size 45 (dc x), .stored wr.heap.size 45 (dc x) 13, .is (.bool ok)]
        [some 18, some 19, some 20, some 21, some 22, some 23, some 24, some 25, some 26, some 27, some 17, some 28, some 29, some 6, none, some 7] (by kernel_rfl) (by kernel_rfl) (by kernel_rfl) (by kernel_rfl) rfl ⟨?_, ?_, ?_, ?_, ?_, ?_, ?_, ?_, ?_, ?_, ?_, ?_, ?_, ?_, ?_, ?_, trivial⟩ ?_
      · intro ρ vs W1 hb1 H
        exact gives_move rfl (H.old 0 _ (by kernel_rfl) rfl) ⟨upd_at _ _ _, Keep.self _⟩
      · intro ρ vs W1 hb1 H
        exact gives_move rfl (H.old 5 _ (by kernel_rfl) rfl) ⟨upd_at _ _ _, Keep.self _⟩
      · intro ρ vs W1 hb1 H
        exact gives_index elemI rfl (H.holds 18 0 (by kernel_rfl)) (H.holds 19 1 (by kernel_rfl)) (by omega) ⟨upd_at _ _ _, Keep.self _⟩
      · intro ρ vs W1 hb1 H
        exact gives_load rfl (H.holds 20 2 (by kernel_rfl)) Tryd.underlying3 rfl (hcc0 W1 hb1.1) ⟨upd_at _ _ _, Keep.self _⟩
      · intro ρ vs W1 hb1 H
        exact gives_move rfl (H.old 0 _ (by kernel_rfl) rfl) ⟨upd_at _ _ _, Keep.self _⟩
      · intro ρ vs W1 hb1 H
        exact gives_move rfl (H.old 5 _ (by kernel_rfl) rfl) ⟨upd_at _ _ _, Keep.self _⟩
      · intro ρ vs W1 hb1 H
        exact gives_add rfl (H.holds 23 5 (by kernel_rfl)) (H.const _) (by omega) (by omega) ⟨upd_at _ _ _, Keep.self _⟩
      · intro ρ vs W1 hb1 H
        exact gives_index elemI (k := k + 1) rfl (H.holds 22 4 (by kernel_rfl)) (H.holds 24 6 (by kernel_rfl)) (by omega) ⟨upd_at _ _ _, Keep.self _⟩
      · intro ρ vs W1 hb1 H
        exact gives_load rfl (H.holds 25 7 (by kernel_rfl)) Tryd.underlying3 rfl (hcc1 W1 hb1.1) ⟨upd_at _ _ _, Keep.self _⟩
      · intro ρ vs W1 hb1 H
        have e0 : ρ (.tmp 21) = .int .i64 a := H.holds 21 3 (by kernel_rfl)
        have e1 : ρ (.tmp 26) = .int .i64 b := H.holds 26 8 (by kernel_rfl)
        refine gives_call rfl (fun _ _ => by kernel_rfl) (H.func _) (args := #[.int .i64 a, .int .i64 b]) (by simp [e0, e1]) ?_
        exact (HBT.out W1).mono fun e w' ⟨h1, h2⟩ => ⟨_, h1, upd_at _ _ _, Keep.of hb1.1.size h2⟩
      · intro ρ vs W1 hb1 H
        exact gives_move rfl (H.holds 27 9 (by kernel_rfl)) ⟨upd_at _ _ _, Keep.self _⟩
      · intro ρ vs W1 hb1 H
        exact gives_extract rfl (H.holds 17 10 (by kernel_rfl)) rfl ⟨upd_at _ _ _, Keep.self _⟩
      · intro ρ vs W1 hb1 H
        exact gives_extract rfl (H.holds 17 10 (by kernel_rfl)) rfl ⟨upd_at _ _ _, Keep.self _⟩
      · intro ρ vs W1 hb1 H
        obtain ⟨i0, hi, hz0, hz1, hz2⟩ := info_parts Tryd.infoD
        exact gives_alloc hi hz0 rfl ⟨⟨W1.heap.size, dc (0, false), upd_at _ _ _, hb1.1.size, rfl, heap_alloc_new W1 _⟩, Keep.alloc hb1.1.size _⟩
      · intro ρ vs W1 hb1 H
        obtain ⟨h, old, e1, e2, e3, e4⟩ := H.holds 6 13 (by kernel_rfl)
        have e5 : vs 13 = .pointer (some ⟨h, 0, none⟩) := (H.new 6 13 (by kernel_rfl)).symm.trans e1
        exact gives_store_row (cs := dc x) rfl e1 (H.holds 28 11 (by kernel_rfl)) e4 sizeD e3 (dc_one x) ⟨⟨h, (upd_ne _ _ (by decide)).trans e5, e2, rowAll_set e4⟩, Keep.store e2 e4⟩
      · intro ρ vs W1 hb1 H
        exact gives_assign rfl (H.holds 29 12 (by kernel_rfl)) ⟨upd_at _ _ _, Keep.self _⟩
      · intro vs W1 hb1 hfs
        obtain ⟨h, f13, hh, hrw⟩ : ∃ h, vs 13 = .pointer (some ⟨h, 0, none⟩) ∧ wr.heap.size ≤ h ∧ Row W1 h 45 (dc x) := hfs 14 (by decide)
        have f15 : vs 15 = .bool ok := hfs 15 (by decide)
        clear hfs
        simp only [putAll, Nat.zero_add, Nat.reduceAdd]
        generalize vs 0 = z0
        generalize vs 1 = z1
        generalize vs 2 = z2
        generalize vs 3 = z3
        generalize vs 4 = z4
        generalize vs 5 = z5
        generalize vs 6 = z6
        generalize vs 7 = z7
        generalize vs 8 = z8
        generalize vs 9 = z9
        generalize vs 10 = z10
        generalize vs 11 = z11
        generalize vs 12 = z12
        generalize vs 14 = z14
        simp only [f13, f15, Act.put, List.setIfInBounds_toArray, List.set_cons_succ, List.set_cons_zero]
        have HB1 := Lib.hid (HB.out.trans (hb1.1.mono HB.out.size))
        have HROW1 := Lib.hid (HROW.out.below hb1.1 hgw)
        have hne : ¬ h = w.heap.size := by omega
        clear f13 f15 hb1 hcc0 hcc1
        cases ok with
        | false =>
          go_wp2
          go_ret2
          exact .inr ⟨⟨k, hkl1, by rw [← HX.out.2]⟩, rfl, HB1.out⟩
        | true =>
          obtain ⟨xu, xf⟩ := x
          have hk1 : W1.cell? ⟨h, 0, none⟩ = some (.int .u64 (xu : Int)) := hrw.cell 0
          have hk2 : W1.cell? ⟨h, 1, none⟩ = some (.bool xf) := hrw.cell 1
          have HFIT := Lib.hid (show k * 2 + (dc (xu, xf)).length ≤ ((gpairs l k).flatMap dc ++ rest).length by
            rw [List.length_append, dflat_len, gpairs_len, HRL.out, dc_len]; omega)
          have HNEW := Lib.hid (show ((gpairs l k).flatMap dc ++ rest).take (k * 2) ++ dc (xu, xf) ++ ((gpairs l k).flatMap dc ++ rest).drop (k * 2 + (dc (xu, xf)).length) = (gpairs l (k + 1)).flatMap dc ++ rest.drop 2 by
            have hl1 : ((gpairs l k).flatMap dc).length = k * 2 := by rw [dflat_len, gpairs_len]
            rw [List.take_append_of_le_length (by omega), List.take_of_length_le (by omega), List.drop_append, hl1, List.drop_of_length_le (by rw [hl1]; exact Nat.le_add_right _ _), gpairs_succ, ← HX.out.1, List.flatMap_append, List.flatMap_singleton, dc_len,
              show k * 2 + 2 - k * 2 = 2 by omega, List.nil_append])
          go_wp2_with (refine wpList_storeW rfl 45 _ _ rfl w.heap.size (k * 2) 45 ((gpairs l k).flatMap dc ++ rest) (dc (xu, xf)) _ HNEW.out rfl rfl HROW1.out sizeD HFIT.out (dc_one _) w w.heap.size HB1.out (Nat.le_refl _) ?_)
          intro w3 hr3 hb3 _
          have HR3 := Lib.hid hr3
          have HB3 := Lib.hid hb3
          clear hr3 hb3
          go_wp2
          go_roundw
          case rel => exact ⟨k + 1, rest.drop 2, hlt, by go_num, fun j hj => by
            rcases (by omega : j < k ∨ j = k) with h | rfl
            · exact HOK.out j h
            · exact HX.out.2.symm, by rw [List.length_drop, HRL.out]; omega, HR3.out, HB3.out⟩
          case measure => simp [intOf]; omega
    · obtain rfl : k = m := by omega
      obtain rfl : rest = [] := List.eq_nil_of_length_eq_zero (by rw [HRL.out]; omega)
      go_wp2
      go_ret2
      refine .inl ⟨fun i hi => HOK.out i (by have := HN.out; omega), _, rfl, ?_, HB.out⟩
      have hr := HROW.out
      rw [List.append_nil] at hr
      rw [show l.length - 1 = k by have := HN.out; omega]
      exact isR_row hr (gpairs_len l k) (by omega)
end Go.Proofs.YtchgpgnipmmflaaDoor

/- The library's contract of math/bits.Mul, laid at this program's numbers. -/





namespace Go.Proofs

open Go.Shelf
def Tryd.lays212_ren : Go.Shelf.Ren := ⟨fun | 212 => 74 | 263 => 79 | 264 => 80 | n => n, fun | 46 => 41 | 51 => 95 | 53 => 23 | 146 => 96 | 148 => 98 | n => n, fun | n => n⟩
theorem Tryd.lays212 : Go.Proofs.Lays.n212 Tryd.prog Tryd.lays212_ren := {
  mixed := by kernel_rfl
  f212 := Tryd.func74.trans (congrArg some (by kernel_rfl))
  f263 := Tryd.func79.trans (congrArg some (by kernel_rfl))
  f264 := Tryd.func80.trans (congrArg some (by kernel_rfl))
  t46 := Tryd.underlying41
  a46 := Tryd.isAgg41
  z46 := Tryd.sizeOf41
  v46 := Tryd.zeroValue41
  t51 := Tryd.underlying95
  a51 := Tryd.isAgg95
  z51 := Tryd.sizeOf95
  v51 := Tryd.zeroValue95
  t53 := Tryd.underlying23
  a53 := Tryd.isAgg23
  z53 := Tryd.sizeOf23
  v53 := Tryd.zeroValue23
  t146 := Tryd.underlying96
  a146 := Tryd.isAgg96
  z146 := Tryd.sizeOf96
  v146 := Tryd.zeroValue96
  t148 := Tryd.underlying98
  a148 := Tryd.isAgg98
  z148 := Tryd.sizeOf98
  v148 := Tryd.zeroValue98 }
theorem Tryd.bits_Mul (x y : Nat) (hx : x < 18446744073709551616) (hy : y < 18446744073709551616) (w : World) :
    Calls Tryd.prog 74 #[.int .u64 x, .int .u64 y] w fun e w' => e = .returned (.tuple #[.int .u64 ((x * y / 18446744073709551616 : Nat) : Int), .int .u64 ((x * y % 18446744073709551616 : Nat) : Int)]) ∧ w' = w := Any.bits_Mul Tryd.lays212 x y hx hy w
end Go.Proofs
